import Derived.Test.YtakffanafcidbaaAbK
namespace Go.Ab
open Go Go.RowKit
set_option linter.unusedVariables false
set_option linter.unusedSimpArgs false
variable {P : Program} {Γ : Con} {X : Nat → Prop} {β : List Base} {w : World} {L : LH} {N : Nat}
section tail
variable {all : List Oper} {vs : List PV} {env0 : Env} {Q : Exit → Act → World → Prop} {m : Nat}

theorem take_zip' {A B : Type} : ∀ (n : Nat) (x : List A) (y : List B), (x.zip y).take n = (x.take n).zip (y.take n)
  | 0, _, _ => by simp
  | n + 1, [], _ => by simp
  | n + 1, _ :: _, [] => by simp
  | n + 1, a :: x, b :: y => by simp [take_zip' n x y]

def needs (all : List Oper) : Nat → Nat → List Nat
  | 0, _ => []
  | f + 1, i => match all[i]? with
    | some o => o.after.toList.flatMap fun e => if Region.binds .any e then e.on :: needs all f e.on else []
    | none => []
/-- From 'm' on, an operation comes behind all those that stand before it. -/
def tailOk (all : List Oper) (m : Nat) : Bool := decide (m ≤ all.length) && (List.range all.length).all fun i => decide (i < m) || (List.range i).all fun j => (needs all all.length i).contains j

theorem needs_in {S : List Nat} (hcl : ∀ j ∈ S, ∀ q, all[j]? = some q → ∀ e ∈ q.after.toList, Region.binds .any e = true → e.on ∈ S) : ∀ (f i : Nat) (o : Oper), all[i]? = some o → (∀ e ∈ o.after.toList, Region.binds .any e = true → e.on ∈ S) → ∀ j ∈ needs all f i, j ∈ S
  | 0, i, o, _, _, j, h => by simp [needs] at h
  | f + 1, i, o, ho, hd, j, h => by
    simp only [needs, ho, List.mem_flatMap] at h
    obtain ⟨e, he, hj⟩ := h
    split at hj
    · rename_i hb
      rcases List.mem_cons.1 hj with rfl | hj
      · exact hd e he hb
      · have heS := hd e he hb
        cases hq : all[e.on]? with
        | none => cases f with
          | zero => simp [needs] at hj
          | succ f => simp [needs, hq] at hj
        | some q => exact needs_in hcl f e.on q hq (hcl e.on heS q hq) j hj
    · simp at hj

theorem tail_force (ht : tailOk all m = true) {S : List Nat} (hcl : ∀ j ∈ S, ∀ q, all[j]? = some q → ∀ e ∈ q.after.toList, Region.binds .any e = true → e.on ∈ S)
    {i : Nat} {o : Oper} (ho : all[i]? = some o) (hm : m ≤ i) (hd : ∀ e ∈ o.after.toList, Region.binds .any e = true → e.on ∈ S) : ∀ j, j < i → j ∈ S := by
  intro j hj
  have hi := (List.getElem?_eq_some_iff.1 ho).1
  unfold tailOk at ht
  rw [Bool.and_eq_true] at ht
  have := List.all_eq_true.1 ht.2 i (by simp [hi])
  simp only [Bool.or_eq_true, decide_eq_true_eq] at this
  rcases this with h | h
  · omega
  · have := List.all_eq_true.1 h j (by simp [hj])
    exact needs_in hcl _ i o ho hd j (by simpa using this)

theorem tail_sound (hΓ : GammaOk P Γ) (hok : drawOk all = true) (hd : ∀ o ∈ all, ∀ d, o.dst = some d → d < N) (ht : tailOk all m = true) {ops : List Oper} {env env' : Env} {L L' : LH} (h : LRun P Γ all ops env L env' L') :
    ∀ {k fuel : Nat} {listed : Array Bool} {β : List Base} {w : World} {a : Act}, m ≤ k → ops = all.drop k → k ≤ all.length → all.length - k ≤ fuel → listed.size = all.length → (∀ i, i < all.length → listed[i]? = some (decide (i ∈ List.range k))) →
      (∀ j ∈ List.range k, ∀ q, all[j]? = some q → ∀ e ∈ q.after.toList, Region.binds .any e = true → e.on ∈ List.range k) →
      RepA N X β w env a → RepH X β w L → (∀ a' w' β', RepA N X β' w' env' a' → RepH X β' w' L' → Grow β β' w w' → Q .normal a' w') → wpAny P .any all.toArray Q fuel listed a w := by
  induction h with
  | nil =>
    intro k fuel listed β w a hmk hops hk hf hsz hS hcl hA hH hQ
    have hkl : k = all.length := by
      have := congrArg List.length hops
      simp at this; omega
    subst hkl
    have hq := hQ a w β hA hH (Grow.refl β w)
    have hno : ∀ i, i ∉ Region.ready .any all.toArray listed := by
      intro i hi
      obtain ⟨o, ho, hn, _⟩ := (mem_ready' hsz hS (by simp)).1 hi
      exact hn (by simpa using (List.getElem?_eq_some_iff.1 ho).1)
    cases fuel with
    | zero => exact ⟨List.eq_nil_iff_forall_not_mem.2 hno, hq⟩
    | succ f => exact ⟨fun _ => hq, fun i hi => absurd hi (hno i)⟩
  | @cons o r env L v L1 env' L' hs kk ih =>
    intro k fuel listed β w a hmk hops hk hf hsz hS hcl hA hH hQ
    have hkl : k < all.length := by
      have := congrArg List.length hops
      simp at this; omega
    have hget : all[k]? = some o := by
      have : (all.drop k)[0]? = some o := by rw [← hops]; rfl
      simpa using this
    have hr : r = all.drop (k + 1) := by
      have : (all.drop k).tail = r := by rw [← hops]; rfl
      rw [← this]; simp
    cases fuel with
    | zero => omega
    | succ f =>
      refine ⟨fun hn => ?_, fun i hi => ?_⟩
      · have := ready_nil hok hsz hS (by simp; omega) hn k hkl
        simp at this
      · obtain ⟨q, hq, hn, hdep⟩ := (mem_ready' hsz hS (by simp; omega)).1 hi
        have hik : i = k := by
          have h1 : k ≤ i := by simpa using hn
          by_cases h2 : k < i
          · have := tail_force ht hcl hq (by omega) hdep k h2
            simp at this
          · omega
        subst hik
        rw [hget] at hq; cases hq
        have := step_sound (Q := Q) (K := wpAny P .any all.toArray Q f (listed.setIfInBounds i true)) hΓ hs hA hH (hd o (List.mem_of_getElem? hget)) (fun a1 w1 β1 e1 e2 e3 _ =>
          ih (k := i + 1) (by omega) hr (by omega) (by omega) (by simp [hsz]) (fun j hj => by
            by_cases hji : j = i
            · subst hji; simp [hsz, hj]
            · rw [Array.getElem?_setIfInBounds_ne (Ne.symm hji), hS j hj]
              simp; omega) (fun j hj q hq e he hb => by
              simp at hj
              by_cases hji : j = i
              · subst hji
                rw [hget] at hq; cases hq
                have := hdep e he hb
                simp at this ⊢; omega
              · have := hcl j (by simp; omega) q hq e he hb
                simp at this ⊢; omega) e1 e2 (fun a' w' β' f1 f2 f3 => hQ a' w' β' f1 f2 (e3.trans f3)))
        unfold wpOp
        have hget' : all.toArray[i]? = some o := by simpa using hget
        rw [hget']
        simp only
        split
        · rename_i hw; rw [if_pos hw] at this; exact .inl this
        · rename_i hw; rw [if_neg hw] at this; exact this
  | freeze hl hok' hc kk ih =>
    intro k fuel listed β w a hmk hops hk hf hsz hS hcl hA hH hQ
    obtain ⟨h1, h2, h3⟩ := freeze_sound hA hH hl hok' hc
    exact ih hmk hops hk hf hsz hS hcl h1 h2 (fun a' w' β' f1 f2 f3 => hQ a' w' β' f1 f2 (h3.trans f3))

theorem draw_end2 (hok : drawOk all = true) (hl : vs.length = all.length) {S : List Nat} (hall : ∀ i, i < m → i ∈ S) (hS : ∀ i ∈ S, i < m) (hm : m ≤ all.length) (t : Nat) :
    lookup (puts env0 (((all.map (·.dst)).zip vs).take m)) t = lookup (puts env0 (psOf all vs S)) t := by
  obtain ⟨_, _, h3⟩ := drawOk_spec hok
  have take_get : ∀ (k : Nat) x, (((all.map (·.dst)).zip vs).take m)[k]? = some x → k < m ∧ ((all.map (·.dst)).zip vs)[k]? = some x := by
    intro k x h
    rw [List.getElem?_take] at h
    split at h
    · exact ⟨by assumption, h⟩
    · cases h
  by_cases hw : ∃ (j : Nat) (q : Oper), j < m ∧ all[j]? = some q ∧ q.dst = some t
  · obtain ⟨j, q, hjm, hj, hq⟩ := hw
    have hjl : j < vs.length := by omega
    have huniq : ∀ (k : Nat) x, ((all.map (·.dst)).zip vs)[k]? = some x → x.1 = some t → k = j ∧ x.2 = vs[j] := by
      intro k x hx ht
      obtain ⟨r, e1, e2, e3⟩ := (zip_get hl).1 hx
      have : k = j := h3 k r j q t e1 hj hq (by rw [← e2]; exact ht)
      subst this
      rw [List.getElem?_eq_getElem hjl] at e3
      exact ⟨rfl, (Option.some.inj e3).symm⟩
    have hz : ((all.map (·.dst)).zip vs)[j]? = some (some t, vs[j]) := (zip_get hl).2 ⟨q, hj, hq.symm, by simp [hjl]⟩
    have hz2 : (((all.map (·.dst)).zip vs).take m)[j]? = some (some t, vs[j]) := by rw [List.getElem?_take, if_pos hjm]; exact hz
    rw [puts_some (v := vs[j]) ⟨_, List.mem_of_getElem? hz2, rfl⟩ (fun x hx he => by
      obtain ⟨k, hk⟩ := List.getElem?_of_mem hx
      exact (huniq k x (take_get k x hk).2 he).2)]
    rw [puts_some (v := vs[j]) ⟨_, mem_psOf.2 ⟨j, hall j hjm, hz⟩, rfl⟩ (fun x hx he => by
      obtain ⟨k, _, hk⟩ := mem_psOf.1 hx
      exact (huniq k x hk he).2)]
  · rw [puts_none (fun x hx he => by
      obtain ⟨k, hk⟩ := List.getElem?_of_mem hx
      obtain ⟨hkm, hk⟩ := take_get k x hk
      obtain ⟨r, e1, e2, e3⟩ := (zip_get hl).1 hk
      exact hw ⟨k, r, hkm, e1, by rw [← e2]; exact he⟩)]
    rw [puts_none (fun x hx he => by
      obtain ⟨k, hkS, hk⟩ := mem_psOf.1 hx
      obtain ⟨r, e1, e2, e3⟩ := (zip_get hl).1 hk
      exact hw ⟨k, r, hS k hkS, e1, by rw [← e2]; exact he⟩)]

theorem draw_sound2 (hΓ : GammaOk P Γ) (hok : drawOk all = true) (hl : vs.length = all.length) (hd : ∀ o ∈ all, ∀ d, o.dst = some d → d < N) (hm : m ≤ all.length) (ht : tailOk all m = true)
    (hv : ∀ (i : Nat) o v, i < m → all[i]? = some o → vs[i]? = some v → stepV P Γ true all o (puts env0 (((all.map (·.dst)).zip vs).take i)) L v L)
    {env' : Env} {L' : LH} (htail : LRun P Γ all (all.drop m) (puts env0 (((all.map (·.dst)).zip vs).take m)) L env' L')
    (w0 : World) (hQ : ∀ a' w' β', RepA N X β' w' env' a' → RepH X β' w' L' → Grow β β' w0 w' → Q .normal a' w') :
    ∀ (fuel : Nat) (S : List Nat) (listed : Array Bool) (a : Act) (w : World), (List.range m).countP (fun i => decide (i ∉ S)) + (all.length - m) ≤ fuel → listed.size = all.length → (∀ i, i < all.length → listed[i]? = some (decide (i ∈ S))) → (∀ i ∈ S, i < m) →
      (∀ j ∈ S, ∀ q, all[j]? = some q → ∀ e ∈ q.after.toList, Region.binds .any e = true → e.on ∈ S) →
      RepA N X β w (puts env0 (psOf all vs S)) a → RepH X β w L → Grow β β w0 w → wpAny P .any all.toArray Q fuel listed a w := by
  have fin : ∀ (fuel : Nat) (S : List Nat) (listed : Array Bool) (a : Act) (w : World), (all.length - m) ≤ fuel → listed.size = all.length → (∀ i, i < all.length → listed[i]? = some (decide (i ∈ S))) → (∀ i, i < m → i ∈ S) → (∀ i ∈ S, i < m) →
      (∀ j ∈ S, ∀ q, all[j]? = some q → ∀ e ∈ q.after.toList, Region.binds .any e = true → e.on ∈ S) →
      RepA N X β w (puts env0 (psOf all vs S)) a → RepH X β w L → Grow β β w0 w → wpAny P .any all.toArray Q fuel listed a w := by
    intro fuel S listed a w hf hsz hS hall hSm hcl hA hH hg
    have hiff : ∀ i, i ∈ List.range m ↔ i ∈ S := fun i => ⟨fun h => hall i (by simpa using h), fun h => by simpa using hSm i h⟩
    exact tail_sound hΓ hok hd ht htail (k := m) (Nat.le_refl m) rfl hm hf hsz (fun i hi => by rw [hS i hi]; simp only [hiff]) (fun j hj q hq e he hb => (hiff _).2 (hcl j ((hiff _).1 hj) q hq e he hb))
      ⟨hA.size, hA.defers, fun t => by rw [draw_end2 hok hl hall hSm hm t]; exact hA.slot t⟩ hH (fun a' w' β' h1 h2 h3 => hQ a' w' β' h1 h2 (hg.trans h3))
  intro fuel
  induction fuel with
  | zero =>
    intro S listed a w hc hsz hS hSm hcl hA hH hg
    have hall : ∀ i, i < m → i ∈ S := by
      intro i hi
      have h0 : (List.range m).countP (fun i => decide (i ∉ S)) = 0 := by omega
      rw [List.countP_eq_zero] at h0
      have := h0 i (by simp [hi])
      simpa using this
    exact fin 0 S listed a w (by omega) hsz hS hall hSm hcl hA hH hg
  | succ fuel ih =>
    intro S listed a w hc hsz hS hSm hcl hA hH hg
    by_cases hall : ∀ i, i < m → i ∈ S
    · exact fin (fuel + 1) S listed a w (by omega) hsz hS hall hSm hcl hA hH hg
    have hSl : ∀ i ∈ S, i < all.length := fun i hi => by have := hSm i hi; omega
    refine ⟨fun hr => absurd (fun i hi => ready_nil hok hsz hS hSl hr i (by omega)) hall, fun i hi => ?_⟩
    obtain ⟨o, ho, hn, hdep⟩ := (mem_ready' hsz hS hSl).1 hi
    have hil := (List.getElem?_eq_some_iff.1 ho).1
    have him : i < m := by
      refine Decidable.byContradiction fun h => hall fun j hj => tail_force ht hcl ho (by omega) hdep j (by omega)
    have hiv : i < vs.length := by omega
    have hstep := hv i o vs[i] him ho (by simp [hiv])
    have hstep' := stepV_congr (fun t ht => draw_agree (env0 := env0) hok hl hcl ho hn hdep ht) hstep
    have hps : puts env0 (psOf all vs (S ++ [i])) = putIn (puts env0 (psOf all vs S)) o.dst vs[i] := by
      have hz : ((all.map (·.dst)).zip vs)[i]? = some (o.dst, vs[i]) := (zip_get hl).2 ⟨o, ho, rfl, by simp [hiv]⟩
      simp [puts, psOf, List.filterMap_append, hz]
    have := step_sound (Q := Q) (K := wpAny P .any all.toArray Q fuel (listed.setIfInBounds i true)) hΓ hstep' hA hH (hd o (List.mem_of_getElem? ho)) (fun a1 w1 β1 e1 e2 e3 e4 => by
      obtain ⟨rfl, _⟩ := e4 rfl
      refine ih (S ++ [i]) _ a1 w1 ?_ (by simp [hsz]) (fun k hk => ?_) (fun k hk => ?_) (fun j hj q hq e he hb => ?_) (by rw [hps]; exact e1) e2 (hg.trans e3)
      · have := countP_lt (p := fun k => decide (k ∉ S)) (q := fun k => decide (k ∉ S ++ [i])) (l := List.range m) (fun x _ hx => by simp at hx ⊢; exact hx.1) ⟨i, by simp [him], by simpa using hn, by simp⟩
        omega
      · by_cases hki : k = i
        · subst hki
          simp [hsz, hk]
        · rw [Array.getElem?_setIfInBounds_ne (Ne.symm hki), hS k hk]
          simp [hki]
      · rcases List.mem_append.1 hk with h | h
        · exact hSm k h
        · simp at h; omega
      · rcases List.mem_append.1 hj with h | h
        · exact List.mem_append_left _ (hcl j h q hq e he hb)
        · simp at h; subst h
          rw [ho] at hq; cases hq
          exact List.mem_append_left _ (hdep e he hb))
    unfold wpOp
    have hget : all.toArray[i]? = some o := by simpa using ho
    rw [hget]
    simp only
    split
    · rename_i hw; rw [if_pos hw] at this; exact .inl this
    · rename_i hw; rw [if_neg hw] at this; exact this

/-- A region whose order is drawn, up to a tail that has only one order. -/
theorem region_tail (hΓ : GammaOk P Γ) (hmx : P.follows .mixedOrders = true) {id : Nat} {env env1 env' : Env} {L1 L' : LH} {a : Act} (hok : drawOk all = true) (ht : tailOk all m = true) (hd : ∀ o ∈ all, ∀ d, o.dst = some d → d < N)
    (h : TRun P Γ true all (all.take m) env L env1 L1) (h2 : LRun P Γ all (all.drop m) env1 L1 env' L') (hA : RepA N X β w env a) (hH : RepH X β w L)
    (hQ : ∀ a' w' β', RepA N X β' w' env' a' → RepH X β' w' L' → Grow β β' w w' → Q .normal a' w') : (Code.region id all.toArray true).wp P Q a w := by
  have hm : m ≤ all.length := by unfold tailOk at ht; rw [Bool.and_eq_true] at ht; simpa using ht.1
  obtain ⟨rfl, vs1, e2, rfl, e4⟩ := trun_vals h
  have hl1 : vs1.length = m := by rw [e2]; simp; omega
  let vs := vs1 ++ List.replicate (all.length - m) PV.any
  have hl : vs.length = all.length := by simp [vs, hl1]; omega
  have hz : ((all.map (·.dst)).zip vs).take m = ((all.take m).map (·.dst)).zip vs1 := by
    rw [take_zip', List.map_take]
    congr 1
    simp [vs, ← hl1]
  have hv : ∀ (i : Nat) o v, i < m → all[i]? = some o → vs[i]? = some v → stepV P Γ true all o (puts env (((all.map (·.dst)).zip vs).take i)) L1 v L1 := by
    intro i o v him ho hvi
    have := e4 i o v (by rw [List.getElem?_take, if_pos him]; exact ho) (by
      rw [← hvi]; simp only [vs]; rw [List.getElem?_append_left (by omega)])
    rw [← hz, List.take_take, Nat.min_eq_left (by omega)] at this
    exact this
  refine wp_region_any hmx ?_
  have hH' : RepH X β { w with drawn := w.drawn + 1 } L1 := hH.same grow_drew_id (fun _ _ => rfl)
  have := draw_sound2 (Q := Q) (N := N) (X := X) (β := β) hΓ hok hl hd hm ht hv (by rw [hz]; exact h2) w hQ all.length [] (Array.replicate all.length false) a { w with drawn := w.drawn + 1 }
    (by have : (List.range m).countP (fun i => decide (i ∉ ([] : List Nat))) ≤ m := Nat.le_trans List.countP_le_length (by simp)
        omega) (by simp) (fun i hi => by simp [hi]) (by simp) (by simp) (hA.grow grow_drew_id) hH' grow_drew_id
  simpa using this
theorem tail_all : tailOk all all.length = true := by
  unfold tailOk
  rw [Bool.and_eq_true]
  refine ⟨by simp, ?_⟩
  rw [List.all_eq_true]
  intro i hi
  have : i < all.length := by simpa using hi
  simp [this]
end tail
end Go.Ab
