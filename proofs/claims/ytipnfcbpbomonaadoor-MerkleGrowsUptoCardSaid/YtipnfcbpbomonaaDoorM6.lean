import Derived.Test.YtipnfcbpbomonaaDoorM5
namespace Go.Ab
open Go Go.RowKit
set_option linter.unusedVariables false
set_option linter.unusedSimpArgs false
variable {P : Program} {Γ : Con} {X : Nat → Prop} {β : List Base} {w : World} {L : LH} {N B : Nat} {rr : Option Nat}
section tail
variable {all : List Oper} {vs : List PV} {env0 : Env} {Q : Exit → Act → World → Prop} {m : Nat}
theorem take_zip' {A B : Type} : ∀ (n : Nat) (x : List A) (y : List B), (x.zip y).take n = (x.take n).zip (y.take n)
  | 0, _, _ => by simp
  | n + 1, [], _ => by simp
  | n + 1, _ :: _, [] => by simp
  | n + 1, a :: x, b :: y => by simp [take_zip' n x y]
def needs (all : List Oper) : Nat → Nat → List Nat
  | 0, _ => []
  | f + 1, i => match all[i]? with
    | some o => o.after.toList.flatMap fun e => if Region.binds .any e then e.on :: needs all f e.on else []
    | none => []
def tailOk (all : List Oper) (m : Nat) : Bool := decide (m ≤ all.length) && (List.range all.length).all fun i => decide (i < m) || (List.range i).all fun j => (needs all all.length i).contains j
theorem needs_in {S : List Nat} (hcl : ∀ j ∈ S, ∀ q, all[j]? = some q → ∀ e ∈ q.after.toList, Region.binds .any e = true → e.on ∈ S) : ∀ (f i : Nat) (o : Oper), all[i]? = some o → (∀ e ∈ o.after.toList, Region.binds .any e = true → e.on ∈ S) → ∀ j ∈ needs all f i, j ∈ S
  | 0, i, o, _, _, j, h => by simp [needs] at h
  | f + 1, i, o, ho, hd, j, h => by
    simp only [needs, ho, List.mem_flatMap] at h
    obtain ⟨e, he, hj⟩ := h
    split at hj
    · rename_i hb
      rcases List.mem_cons.1 hj with rfl | hj
      · exact hd e he hb
      · have heS := hd e he hb
        cases hq : all[e.on]? with
        | none => cases f with
          | zero => simp [needs] at hj
          | succ f => simp [needs, hq] at hj
        | some q => exact needs_in hcl f e.on q hq (hcl e.on heS q hq) j hj
    · simp at hj
theorem tail_force (ht : tailOk all m = true) {S : List Nat} (hcl : ∀ j ∈ S, ∀ q, all[j]? = some q → ∀ e ∈ q.after.toList, Region.binds .any e = true → e.on ∈ S)
    {i : Nat} {o : Oper} (ho : all[i]? = some o) (hm : m ≤ i) (hd : ∀ e ∈ o.after.toList, Region.binds .any e = true → e.on ∈ S) : ∀ j, j < i → j ∈ S := by
  intro j hj
  have hi := (List.getElem?_eq_some_iff.1 ho).1
  unfold tailOk at ht
  rw [Bool.and_eq_true] at ht
  have := List.all_eq_true.1 ht.2 i (by simp [hi])
  simp only [Bool.or_eq_true, decide_eq_true_eq] at this
  rcases this with h | h
  · omega
  · have := List.all_eq_true.1 h j (by simp [hj])
    exact needs_in hcl _ i o ho hd j (by simpa using this)
theorem tail_sound (hΓ : GammaOk P Γ) (hok : drawOk all = true) (hd : ∀ o ∈ all, ∀ d, o.dst = some d → d < N) (ht : tailOk all m = true) {ops : List Oper} {env env' : Env} {L L' : LH} (h : LRun P Γ all ops env L env' L') :
    ∀ {k fuel : Nat} {listed : Array Bool} {β : List Base} {w : World} {a : Act}, m ≤ k → ops = all.drop k → k ≤ all.length → all.length - k ≤ fuel → listed.size = all.length → (∀ i, i < all.length → listed[i]? = some (decide (i ∈ List.range k))) →
      (∀ j ∈ List.range k, ∀ q, all[j]? = some q → ∀ e ∈ q.after.toList, Region.binds .any e = true → e.on ∈ List.range k) →
      RepA N B X β w env a → RepH X β w L → (∀ a' w' β', RepA N B X β' w' env' a' → RepH X β' w' L' → Grow β β' w w' → Q .normal a' w') → wpAnyIn (FF rr) 0 P .any all.toArray Q fuel listed a w := by
  induction h with
  | nil =>
    intro k fuel listed β w a hmk hops hk hf hsz hS hcl hA hH hQ
    have hkl : k = all.length := by
      have := congrArg List.length hops
      simp at this; omega
    subst hkl
    have hq := hQ a w β hA hH (Grow.refl β w)
    have hno : ∀ i, i ∉ Region.ready .any all.toArray listed := by
      intro i hi
      obtain ⟨o, ho, hn, _⟩ := (mem_ready' hsz hS (by simp)).1 hi
      exact hn (by simpa using (List.getElem?_eq_some_iff.1 ho).1)
    cases fuel with
    | zero => exact ⟨List.eq_nil_iff_forall_not_mem.2 hno, hq⟩
    | succ f => exact ⟨fun _ => hq, fun i hi => absurd hi (hno i)⟩
  | @cons o r env L v L1 env' L' hs kk ih =>
    intro k fuel listed β w a hmk hops hk hf hsz hS hcl hA hH hQ
    have hkl : k < all.length := by
      have := congrArg List.length hops
      simp at this; omega
    have hget : all[k]? = some o := by
      have : (all.drop k)[0]? = some o := by rw [← hops]; rfl
      simpa using this
    have hr : r = all.drop (k + 1) := by
      have : (all.drop k).tail = r := by rw [← hops]; rfl
      rw [← this]; simp
    cases fuel with
    | zero => omega
    | succ f =>
      refine ⟨fun hn => ?_, fun i hi => ?_⟩
      · have := ready_nil hok hsz hS (by simp; omega) hn k hkl
        simp at this
      · obtain ⟨q, hq, hn, hdep⟩ := (mem_ready' hsz hS (by simp; omega)).1 hi
        have hik : i = k := by
          have h1 : k ≤ i := by simpa using hn
          by_cases h2 : k < i
          · have := tail_force ht hcl hq (by omega) hdep k h2
            simp at this
          · omega
        subst hik
        rw [hget] at hq; cases hq
        have := step_sound (rr := rr) (Q := Q) (K := wpAnyIn (FF rr) 0 P .any all.toArray Q f (listed.setIfInBounds i true)) hΓ hs hA hH (hd o (List.mem_of_getElem? hget)) (fun a1 w1 β1 e1 e2 e3 _ =>
          ih (k := i + 1) (by omega) hr (by omega) (by omega) (by simp [hsz]) (fun j hj => by
            by_cases hji : j = i
            · subst hji; simp [hsz, hj]
            · rw [Array.getElem?_setIfInBounds_ne (Ne.symm hji), hS j hj]
              simp; omega) (fun j hj q hq e he hb => by
              simp at hj
              by_cases hji : j = i
              · subst hji
                rw [hget] at hq; cases hq
                have := hdep e he hb
                simp at this ⊢; omega
              · have := hcl j (by simp; omega) q hq e he hb
                simp at this ⊢; omega) e1 e2 (fun a' w' β' f1 f2 f3 => hQ a' w' β' f1 f2 (e3.trans f3)))
        unfold wpOpIn
        have hget' : all.toArray[i]? = some o := by simpa using hget
        rw [hget']
        simp only
        split
        · rename_i hw; rw [if_pos hw] at this; exact this
        · rename_i hw; rw [if_neg hw] at this; exact ⟨fun f _ => FF_fn rr f, this⟩
  | freeze hl hok' hc kk ih =>
    intro k fuel listed β w a hmk hops hk hf hsz hS hcl hA hH hQ
    obtain ⟨h1, h2, h3⟩ := freeze_sound hA hH hl hok' hc
    exact ih hmk hops hk hf hsz hS hcl h1 h2 (fun a' w' β' f1 f2 f3 => hQ a' w' β' f1 f2 (h3.trans f3))
  | freezep hl hL hc kk ih =>
    intro k fuel listed β w a hmk hops hk hf hsz hS hcl hA hH hQ
    obtain ⟨h1, h2, h3⟩ := freezep_sound hA hH hl hL hc
    exact ih hmk hops hk hf hsz hS hcl h1 h2 (fun a' w' β' f1 f2 f3 => hQ a' w' β' f1 f2 (h3.trans f3))
  | @thaw ops env L t sz env' L' hl kk ih =>
    intro k fuel listed β w a hmk hops hk hf hsz hS hcl hA hH hQ
    obtain ⟨h1, h2, h3⟩ := thaw_sound (sz := sz) hA hH hl
    exact ih hmk hops hk hf hsz hS hcl h1 h2 (fun a' w' β' f1 f2 f3 => hQ a' w' β' f1 f2 (h3.trans f3))
  | @thawc ops env L id j sz cs env' L' hL hj kk ih =>
    intro k fuel listed β w a hmk hops hk hf hsz hS hcl hA hH hQ
    obtain ⟨h1, h2, h3⟩ := thawc_sound (sz := sz) hA hH hL hj
    exact ih hmk hops hk hf hsz hS hcl h1 h2 (fun a' w' β' f1 f2 f3 => hQ a' w' β' f1 f2 (h3.trans f3))
  | freezec hne hL hj hok' hc kk ih =>
    intro k fuel listed β w a hmk hops hk hf hsz hS hcl hA hH hQ
    obtain ⟨h1, h2, h3⟩ := freezec_sound hA hH hne hL hj hok' hc
    exact ih hmk hops hk hf hsz hS hcl h1 h2 (fun a' w' β' f1 f2 f3 => hQ a' w' β' f1 f2 (h3.trans f3))
  | movec hne hL hj hkk kk ih =>
    intro k fuel listed β w a hmk hops hk hf hsz hS hcl hA hH hQ
    obtain ⟨β1, h1, h2, h3⟩ := movec_sound hA hH hne hL hj hkk
    exact ih hmk hops hk hf hsz hS hcl h1 h2 (fun a' w' β' f1 f2 f3 => hQ a' w' β' f1 f2 (h3.trans f3))
theorem draw_end2 (hok : drawOk all = true) (hl : vs.length = all.length) {S : List Nat} (hall : ∀ i, i < m → i ∈ S) (hS : ∀ i ∈ S, i < m) (hm : m ≤ all.length) (t : Nat) :
    lookup (puts env0 (((all.map (·.dst)).zip vs).take m)) t = lookup (puts env0 (psOf all vs S)) t := by
  obtain ⟨_, _, h3⟩ := drawOk_spec hok
  have take_get : ∀ (k : Nat) x, (((all.map (·.dst)).zip vs).take m)[k]? = some x → k < m ∧ ((all.map (·.dst)).zip vs)[k]? = some x := by
    intro k x h
    rw [List.getElem?_take] at h
    split at h
    · exact ⟨by assumption, h⟩
    · cases h
  by_cases hw : ∃ (j : Nat) (q : Oper), j < m ∧ all[j]? = some q ∧ q.dst = some t
  · obtain ⟨j, q, hjm, hj, hq⟩ := hw
    have hjl : j < vs.length := by omega
    have huniq : ∀ (k : Nat) x, ((all.map (·.dst)).zip vs)[k]? = some x → x.1 = some t → k = j ∧ x.2 = vs[j] := by
      intro k x hx ht
      obtain ⟨r, e1, e2, e3⟩ := (zip_get hl).1 hx
      have : k = j := h3 k r j q t e1 hj hq (by rw [← e2]; exact ht)
      subst this
      rw [List.getElem?_eq_getElem hjl] at e3
      exact ⟨rfl, (Option.some.inj e3).symm⟩
    have hz : ((all.map (·.dst)).zip vs)[j]? = some (some t, vs[j]) := (zip_get hl).2 ⟨q, hj, hq.symm, by simp [hjl]⟩
    have hz2 : (((all.map (·.dst)).zip vs).take m)[j]? = some (some t, vs[j]) := by rw [List.getElem?_take, if_pos hjm]; exact hz
    rw [puts_some (v := vs[j]) ⟨_, List.mem_of_getElem? hz2, rfl⟩ (fun x hx he => by
      obtain ⟨k, hk⟩ := List.getElem?_of_mem hx
      exact (huniq k x (take_get k x hk).2 he).2)]
    rw [puts_some (v := vs[j]) ⟨_, mem_psOf.2 ⟨j, hall j hjm, hz⟩, rfl⟩ (fun x hx he => by
      obtain ⟨k, _, hk⟩ := mem_psOf.1 hx
      exact (huniq k x hk he).2)]
  · rw [puts_none (fun x hx he => by
      obtain ⟨k, hk⟩ := List.getElem?_of_mem hx
      obtain ⟨hkm, hk⟩ := take_get k x hk
      obtain ⟨r, e1, e2, e3⟩ := (zip_get hl).1 hk
      exact hw ⟨k, r, hkm, e1, by rw [← e2]; exact he⟩)]
    rw [puts_none (fun x hx he => by
      obtain ⟨k, hkS, hk⟩ := mem_psOf.1 hx
      obtain ⟨r, e1, e2, e3⟩ := (zip_get hl).1 hk
      exact hw ⟨k, r, hS k hkS, e1, by rw [← e2]; exact he⟩)]
theorem draw_sound2 (hΓ : GammaOk P Γ) (hok : drawOk all = true) (hl : vs.length = all.length) (hd : ∀ o ∈ all, ∀ d, o.dst = some d → d < N) (hm : m ≤ all.length) (ht : tailOk all m = true)
    (hv : ∀ (i : Nat) o v, i < m → all[i]? = some o → vs[i]? = some v → stepV P Γ true all o (puts env0 (((all.map (·.dst)).zip vs).take i)) L v L)
    {env' : Env} {L' : LH} (htail : LRun P Γ all (all.drop m) (puts env0 (((all.map (·.dst)).zip vs).take m)) L env' L')
    (w0 : World) (hQ : ∀ a' w' β', RepA N B X β' w' env' a' → RepH X β' w' L' → Grow β β' w0 w' → Q .normal a' w') :
    ∀ (fuel : Nat) (S : List Nat) (listed : Array Bool) (a : Act) (w : World), (List.range m).countP (fun i => decide (i ∉ S)) + (all.length - m) ≤ fuel → listed.size = all.length → (∀ i, i < all.length → listed[i]? = some (decide (i ∈ S))) → (∀ i ∈ S, i < m) →
      (∀ j ∈ S, ∀ q, all[j]? = some q → ∀ e ∈ q.after.toList, Region.binds .any e = true → e.on ∈ S) →
      RepA N B X β w (puts env0 (psOf all vs S)) a → RepH X β w L → Grow β β w0 w → wpAnyIn (FF rr) 0 P .any all.toArray Q fuel listed a w := by
  have fin : ∀ (fuel : Nat) (S : List Nat) (listed : Array Bool) (a : Act) (w : World), (all.length - m) ≤ fuel → listed.size = all.length → (∀ i, i < all.length → listed[i]? = some (decide (i ∈ S))) → (∀ i, i < m → i ∈ S) → (∀ i ∈ S, i < m) →
      (∀ j ∈ S, ∀ q, all[j]? = some q → ∀ e ∈ q.after.toList, Region.binds .any e = true → e.on ∈ S) →
      RepA N B X β w (puts env0 (psOf all vs S)) a → RepH X β w L → Grow β β w0 w → wpAnyIn (FF rr) 0 P .any all.toArray Q fuel listed a w := by
    intro fuel S listed a w hf hsz hS hall hSm hcl hA hH hg
    have hiff : ∀ i, i ∈ List.range m ↔ i ∈ S := fun i => ⟨fun h => hall i (by simpa using h), fun h => by simpa using hSm i h⟩
    exact tail_sound hΓ hok hd ht htail (k := m) (Nat.le_refl m) rfl hm hf hsz (fun i hi => by rw [hS i hi]; simp only [hiff]) (fun j hj q hq e he hb => (hiff _).2 (hcl j ((hiff _).1 hj) q hq e he hb))
      ⟨hA.size, hA.defers, fun t => by rw [draw_end2 hok hl hall hSm hm t]; exact hA.slot t, hA.glob⟩ hH (fun a' w' β' h1 h2 h3 => hQ a' w' β' h1 h2 (hg.trans h3))
  intro fuel
  induction fuel with
  | zero =>
    intro S listed a w hc hsz hS hSm hcl hA hH hg
    have hall : ∀ i, i < m → i ∈ S := by
      intro i hi
      have h0 : (List.range m).countP (fun i => decide (i ∉ S)) = 0 := by omega
      rw [List.countP_eq_zero] at h0
      have := h0 i (by simp [hi])
      simpa using this
    exact fin 0 S listed a w (by omega) hsz hS hall hSm hcl hA hH hg
  | succ fuel ih =>
    intro S listed a w hc hsz hS hSm hcl hA hH hg
    by_cases hall : ∀ i, i < m → i ∈ S
    · exact fin (fuel + 1) S listed a w (by omega) hsz hS hall hSm hcl hA hH hg
    have hSl : ∀ i ∈ S, i < all.length := fun i hi => by have := hSm i hi; omega
    refine ⟨fun hr => absurd (fun i hi => ready_nil hok hsz hS hSl hr i (by omega)) hall, fun i hi => ?_⟩
    obtain ⟨o, ho, hn, hdep⟩ := (mem_ready' hsz hS hSl).1 hi
    have hil := (List.getElem?_eq_some_iff.1 ho).1
    have him : i < m := by
      refine Decidable.byContradiction fun h => hall fun j hj => tail_force ht hcl ho (by omega) hdep j (by omega)
    have hiv : i < vs.length := by omega
    have hstep := hv i o vs[i] him ho (by simp [hiv])
    have hstep' := stepV_congr (fun t ht => draw_agree (env0 := env0) hok hl hcl ho hn hdep ht) hstep
    have hps : puts env0 (psOf all vs (S ++ [i])) = putIn (puts env0 (psOf all vs S)) o.dst vs[i] := by
      have hz : ((all.map (·.dst)).zip vs)[i]? = some (o.dst, vs[i]) := (zip_get hl).2 ⟨o, ho, rfl, by simp [hiv]⟩
      simp [puts, psOf, List.filterMap_append, hz]
    have := step_sound (rr := rr) (Q := Q) (K := wpAnyIn (FF rr) 0 P .any all.toArray Q fuel (listed.setIfInBounds i true)) hΓ hstep' hA hH (hd o (List.mem_of_getElem? ho)) (fun a1 w1 β1 e1 e2 e3 e4 => by
      obtain ⟨rfl, _⟩ := e4 rfl
      refine ih (S ++ [i]) _ a1 w1 ?_ (by simp [hsz]) (fun k hk => ?_) (fun k hk => ?_) (fun j hj q hq e he hb => ?_) (by rw [hps]; exact e1) e2 (hg.trans e3)
      · have := countP_lt (p := fun k => decide (k ∉ S)) (q := fun k => decide (k ∉ S ++ [i])) (l := List.range m) (fun x _ hx => by simp at hx ⊢; exact hx.1) ⟨i, by simp [him], by simpa using hn, by simp⟩
        omega
      · by_cases hki : k = i
        · subst hki
          simp [hsz, hk]
        · rw [Array.getElem?_setIfInBounds_ne (Ne.symm hki), hS k hk]
          simp [hki]
      · rcases List.mem_append.1 hk with h | h
        · exact hSm k h
        · simp at h; omega
      · rcases List.mem_append.1 hj with h | h
        · exact List.mem_append_left _ (hcl j h q hq e he hb)
        · simp at h; subst h
          rw [ho] at hq; cases hq
          exact List.mem_append_left _ (hdep e he hb))
    unfold wpOpIn
    have hget : all.toArray[i]? = some o := by simpa using ho
    rw [hget]
    simp only
    split
    · rename_i hw; rw [if_pos hw] at this; exact this
    · rename_i hw; rw [if_neg hw] at this; exact ⟨fun f _ => FF_fn rr f, this⟩
theorem region_tail (hΓ : GammaOk P Γ) (hmx : P.follows .mixedOrders = true) {id : Nat} {env env1 env' : Env} {L1 L' : LH} {a : Act} (hok : drawOk all = true) (ht : tailOk all m = true) (hd : ∀ o ∈ all, ∀ d, o.dst = some d → d < N)
    (h : TRun P Γ true all (all.take m) env L env1 L1) (h2 : LRun P Γ all (all.drop m) env1 L1 env' L') (hA : RepA N B X β w env a) (hH : RepH X β w L)
    (hQ : ∀ a' w' β', RepA N B X β' w' env' a' → RepH X β' w' L' → Grow β β' w w' → Q .normal a' w') : (Code.region id all.toArray true).wpIn (FF rr) 0 P Q a w := by
  have hm : m ≤ all.length := by unfold tailOk at ht; rw [Bool.and_eq_true] at ht; simpa using ht.1
  obtain ⟨rfl, vs1, e2, rfl, e4⟩ := trun_vals h
  have hl1 : vs1.length = m := by rw [e2]; simp; omega
  let vs := vs1 ++ List.replicate (all.length - m) PV.any
  have hl : vs.length = all.length := by simp [vs, hl1]; omega
  have hz : ((all.map (·.dst)).zip vs).take m = ((all.take m).map (·.dst)).zip vs1 := by
    rw [take_zip', List.map_take]
    congr 1
    simp [vs, ← hl1]
  have hv : ∀ (i : Nat) o v, i < m → all[i]? = some o → vs[i]? = some v → stepV P Γ true all o (puts env (((all.map (·.dst)).zip vs).take i)) L1 v L1 := by
    intro i o v him ho hvi
    have := e4 i o v (by rw [List.getElem?_take, if_pos him]; exact ho) (by
      rw [← hvi]; simp only [vs]; rw [List.getElem?_append_left (by omega)])
    rw [← hz, List.take_take, Nat.min_eq_left (by omega)] at this
    exact this
  refine wpIn_region_any hmx ?_
  have hH' : RepH X β { w with drawn := w.drawn + 1 } L1 := hH.same grow_drew_id (fun _ _ => rfl)
  have := draw_sound2 (rr := rr) (Q := Q) (N := N) (X := X) (β := β) hΓ hok hl hd hm ht hv (by rw [hz]; exact h2) w hQ all.length [] (Array.replicate all.length false) a { w with drawn := w.drawn + 1 }
    (by have : (List.range m).countP (fun i => decide (i ∉ ([] : List Nat))) ≤ m := Nat.le_trans List.countP_le_length (by simp)
        omega) (by simp) (fun i hi => by simp [hi]) (by simp) (by simp) (hA.grow grow_drew_id) hH' grow_drew_id
  simpa using this
end tail
end Go.Ab
namespace Go.Ab
open Go Go.RowKit
set_option linter.unusedVariables false
set_option linter.unusedSimpArgs false
variable {P : Program} {Γ : Con} {X : Nat → Prop} {β : List Base} {w : World} {L : LH} {N B : Nat} {rr : Option Nat}
set_option linter.constructorNameAsVariable false
inductive Cls where
  | m
  | r
  | l
  | a
  | s
  | k
def cls : Op → Cls
  | .move _ | .assign _ | .pick _ _ _ | .binOp _ _ _ _ _ | .unOp _ _ _ | .extract _ _ | .index _ _ _ | .field _ _ _ | .build _ _ | .buildSlice _ _ _ | .sliceToArrayPointer _ _ => .m
  | .nilCheck _ | .indexAddr _ _ _ | .fieldAddr _ _ _ => .l
  | .alloc _ | .box _ _ | .makeSlice _ _ _ => .a
  | .store _ _ _ => .s
  | .load _ _ | .convert _ _ _ | .slice _ _ _ _ _ => .r
  | .call c => match c.callee with
    | .builtin .len => .l
    | .builtin .cap => .l
    | .builtin .append => .k
    | .builtin .copy => .s
    | _ => .r
  | _ => .k
def isW : Cls → Bool
  | .a => true
  | .s => true
  | .k => true
  | _ => false
def md (o : Op) : Bool := !isW (cls o)
def freeP : Cls → Cls → Bool
  | .m, _ => true
  | _, .m => true
  | .r, .a => true
  | .l, .a => true
  | .l, .s => true
  | .s, .l => true
  | a, b => !isW a && !isW b
def addrOf : Op → Option Nat
  | .load _ (.tmp t) => some t
  | .store _ (.tmp t) _ => some t
  | _ => none
def isLS : Op → Op → Bool
  | .load _ (.tmp _), .store _ (.tmp _) _ => true
  | .store _ (.tmp _) _, .load _ (.tmp _) => true
  | _, _ => false
def steady (all : List Oper) (i : Nat) (t : Option Nat) : Bool :=
  (List.range all.length).all fun j => decide (j < i) || match all[j]? with
    | some q => q.dst != t
    | none => true
def ndMask (acc : List Nat) (o : Oper) : Nat :=
  o.after.toList.foldl (fun m e => bif Region.binds .any e then m ||| (1 <<< e.on ||| acc.getD e.on 0) else m) 0
def nds : List Oper → List Nat → List Nat
  | [], acc => acc
  | o :: r, acc => nds r (acc ++ [ndMask acc o])
def boundTo (all : List Oper) (i j : Nat) : Bool := ((nds all []).getD j 0).testBit i
inductive Dep (all : List Oper) : Nat → Nat → Prop
  | one {i : Nat} {o : Oper} {e : Edge} (ho : all[i]? = some o) (he : e ∈ o.after.toList) (hb : Region.binds .any e = true) : Dep all e.on i
  | more {i m : Nat} {o : Oper} {e : Edge} (ho : all[i]? = some o) (he : e ∈ o.after.toList) (hb : Region.binds .any e = true) (h : Dep all m e.on) : Dep all m i
theorem mask_dep {all : List Oper} {acc : List Nat} {i : Nat} {o : Oper} (ho : all[i]? = some o) (hacc : ∀ (k m : Nat), (acc.getD k 0).testBit m = true → Dep all m k) : ∀ m, (ndMask acc o).testBit m = true → Dep all m i := by
  have gen : ∀ (l : List Edge) (z : Nat), (∀ e ∈ l, e ∈ o.after.toList) → (∀ m, z.testBit m = true → Dep all m i) →
      ∀ m, (l.foldl (fun m e => bif Region.binds .any e then m ||| (1 <<< e.on ||| acc.getD e.on 0) else m) z).testBit m = true → Dep all m i := by
    intro l
    induction l with
    | nil => intro z _ hz m h; exact hz m h
    | cons e l ih =>
      intro z hl hz m h
      simp only [List.foldl_cons] at h
      refine ih _ (fun e he => hl e (by simp [he])) (fun m hm => ?_) m h
      cases hb : Region.binds .any e with
      | false => rw [hb] at hm; exact hz m hm
      | true =>
        rw [hb] at hm
        simp only [cond_true, Nat.testBit_or, Bool.or_eq_true] at hm
        rcases hm with hm | hm | hm
        · exact hz m hm
        · rw [Nat.one_shiftLeft, Nat.testBit_two_pow] at hm
          have : e.on = m := by simpa using hm
          subst this
          exact .one ho (hl e (by simp)) hb
        · exact .more ho (hl e (by simp)) hb (hacc _ _ hm)
  exact gen _ 0 (fun e he => he) (fun m hm => by simp at hm)
theorem nds_dep {all : List Oper} : ∀ (ops pre : List Oper) (acc : List Nat), all = pre ++ ops → acc.length = pre.length → (∀ (k m : Nat), (acc.getD k 0).testBit m = true → Dep all m k) →
    ∀ (k m : Nat), ((nds ops acc).getD k 0).testBit m = true → Dep all m k
  | [], pre, acc, _, _, hacc, k, m, h => hacc k m h
  | o :: r, pre, acc, he, hl, hacc, k, m, h => by
    refine nds_dep r (pre ++ [o]) (acc ++ [ndMask acc o]) (by rw [he]; simp) (by simp [hl]) (fun k m hk => ?_) k m h
    have ho : all[pre.length]? = some o := by rw [he]; simp
    by_cases h1 : k < acc.length
    · rw [List.getD_eq_getElem?_getD, List.getElem?_append_left h1, ← List.getD_eq_getElem?_getD] at hk
      exact hacc k m hk
    · by_cases h2 : k = acc.length
      · subst h2
        rw [List.getD_eq_getElem?_getD, List.getElem?_append_right (Nat.le_refl _)] at hk
        simp at hk
        rw [hl]
        exact mask_dep ho hacc m hk
      · rw [List.getD_eq_getElem?_getD, List.getElem?_eq_none (by simp; omega)] at hk
        simp at hk
theorem bound_dep {all : List Oper} {m i : Nat} (h : boundTo all m i = true) : Dep all m i :=
  nds_dep all [] [] rfl rfl (fun k m h => by simp at h) i m h
theorem dep_in {all : List Oper} {S : List Nat} (hcl : ∀ j ∈ S, ∀ q, all[j]? = some q → ∀ e ∈ q.after.toList, Region.binds .any e = true → e.on ∈ S) {m i : Nat} (h : Dep all m i) :
    (∀ o, all[i]? = some o → ∀ e ∈ o.after.toList, Region.binds .any e = true → e.on ∈ S) → m ∈ S := by
  induction h with
  | one ho he hb => intro h; exact h _ ho _ he hb
  | more ho he hb h ih => intro h; exact ih fun o ho' e he' hb' => hcl _ (h _ ho _ he hb) o ho' e he' hb'
def free1 (all : List Oper) (i : Nat) : Op → Bool
  | .indexAddr _ (.tmp t) _ => steady all i (some t)
  | .load _ (.tmp t) => steady all i (some t)
  | .slice _ (.tmp t) _ _ _ => steady all i (some t)
  | _ => false
def free0 (env : Env) : Op → Bool
  | .indexAddr _ (.tmp t) _ => match lookup env t with
    | .rptr _ => true
    | .ro _ _ => true
    | _ => false
  | .load _ (.tmp t) => match lookup env t with
    | .rptr _ => true
    | _ => false
  | .slice _ (.tmp t) _ _ _ => match lookup env t with
    | .ro _ _ => true
    | _ => false
  | _ => false
def ptrT : Op → Option Nat
  | .load _ (.tmp t) => some t
  | .indexAddr _ (.tmp t) _ => some t
  | _ => none
def apBase : Op → Option Operand
  | .call c => match c.callee, c.args.toList, c.argTypes.toList with
    | .builtin .append, [s, _], [_, _] => some s
    | _, _, _ => none
  | _ => none
def opSteady (all : List Oper) (j : Nat) : Operand → Bool
  | .tmp t => steady all j (some t)
  | .const _ => true
  | _ => false
def ap1 (all : List Oper) (i : Nat) (o : Oper) (j : Nat) (q : Oper) : Bool :=
  match ptrT o.op, apBase q.op, q.dst with
  | some t, some s, some d => steady all i (some t) && opSteady all j s && steady all (j + 1) (some d)
  | _, _, _ => false
def apart (env : Env) (s : Operand) (d r : Nat) : Bool :=
  (match evalIn env s with
    | .own id _ _ _ => !Nat.beq id r
    | .lit _ => true
    | _ => false) &&
  (match lookup env d with
    | .own id _ _ _ => !Nat.beq id r
    | _ => false)
def ap2 (all : List Oper) (env : Env) (i : Nat) (o : Oper) (j : Nat) (q : Oper) : Bool :=
  match ptrT o.op, apBase q.op, q.dst with
  | some t, some s, some d => steady all i (some t) && opSteady all j s && steady all (j + 1) (some d) && (match lookup env t with
    | .ptr r _ => apart env s d r
    | _ => false)
  | _, _, _ => false
def pairOk (all : List Oper) (i j : Nat) : Bool :=
  match all[i]?, all[j]? with
  | some o, some q => boundTo all i j || freeP (cls o.op) (cls q.op) || (isLS o.op q.op && steady all i (addrOf o.op) && steady all j (addrOf q.op)) || (!isLS o.op q.op && (free1 all i o.op || free1 all j q.op || ap1 all i o j q || ap1 all j q i o))
  | _, _ => true
def anyOk (all : List Oper) : Bool := drawOk all && (List.range all.length).all fun j => (List.range j).all fun i => pairOk all i j
def rowNe : PV → PV → Bool
  | .ptr q _, .ptr r _ => q != r
  | .rptr _, .ptr _ _ => true
  | .ptr _ _, .rptr _ => true
  | _, _ => false
def addrV (env : Env) (t : Option Nat) : PV := match t with
  | some t => lookup env t
  | none => .any
def lsOk (all : List Oper) (env : Env) : Bool :=
  (List.range all.length).all fun j => (List.range j).all fun i => match all[i]?, all[j]? with
    | some o, some q => boundTo all i j || freeP (cls o.op) (cls q.op) || (isLS o.op q.op && rowNe (addrV env (addrOf o.op)) (addrV env (addrOf q.op))) ||
        (!isLS o.op q.op && ((free1 all i o.op && free0 env o.op) || (free1 all j q.op && free0 env q.op) || ap2 all env i o j q || ap2 all env j q i o))
    | _, _ => true
theorem get_ext {id : Nat} {x y : LE} (h : L[id]? = some x) : (L ++ [y])[id]? = some x := by
  rw [List.getElem?_append_left (List.getElem?_eq_some_iff.1 h).1]; exact h
theorem slc_ext {x : PV} {y : LE} (h : (slc L x).1) : slc (L ++ [y]) x = slc L x := by
  unfold slc at h ⊢
  split
  · rfl
  · rfl
  · rename_i id off n sz
    simp only at h
    cases hL : L[id]? with
    | none => simp [hL] at h
    | some le => rw [get_ext hL]
  · rename_i h1 h2 h3
    rfl
theorem dro_ext {y : LE} : ∀ (n : Nat) (p : PV), droOk L n p → closed (dro L n p) = true → dro (L ++ [y]) n p = dro L n p ∧ droOk (L ++ [y]) n p
  | 0, p, _, _ => ⟨by simp only [dro], by simp only [droOk]⟩
  | n + 1, p, hok, hc => by
    cases p with
    | own id off k sz =>
      simp only [dro, droOk, closed] at hok hc ⊢
      rw [slc_ext hok.1]
      have key : ∀ q ∈ (slc L (.own id off k sz)).2.2, dro (L ++ [y]) n q = dro L n q ∧ droOk (L ++ [y]) n q := fun q hq =>
        dro_ext n q (hok.2 q hq) (closedL_iff.1 hc _ (List.mem_map_of_mem hq))
      exact ⟨by rw [List.map_congr_left fun q hq => (key q hq).1], hok.1, fun q hq => (key q hq).2⟩
    | agg cs =>
      simp only [dro, droOk, closed] at hok hc ⊢
      have key : ∀ q ∈ cs, dro (L ++ [y]) n q = dro L n q ∧ droOk (L ++ [y]) n q := fun q hq =>
        dro_ext n q (hok q hq) (closedL_iff.1 hc _ (List.mem_map_of_mem hq))
      exact ⟨by rw [List.map_congr_left fun q hq => (key q hq).1], fun q hq => (key q hq).2⟩
    | ptr id off =>
      simp only [dro, droOk] at hc ⊢
      split at hc
      · rename_i cs hL
        simp only [hL, get_ext hL]
        exact ⟨trivial, trivial⟩
      · simp [closed] at hc
    | any => simp only [dro, droOk]; exact ⟨trivial, trivial⟩
    | lit u => simp only [dro, droOk]; exact ⟨trivial, trivial⟩
    | ro k cs => simp only [dro, droOk]; exact ⟨trivial, trivial⟩
    | rptr cs => simp only [dro, droOk]; exact ⟨trivial, trivial⟩
    | tup cs => simp only [dro, droOk]; exact ⟨trivial, trivial⟩
    | fn f a b => simp only [dro, droOk]; exact ⟨trivial, trivial⟩
    | new a b c => simp only [dro, droOk]; exact ⟨trivial, trivial⟩
theorem borrow_ext {y : LE} {p : PV} (h : borrowOk L p) : borrow (L ++ [y]) p = borrow L p ∧ borrowOk (L ++ [y]) p := by
  unfold borrow
  rcases h with h | ⟨h1, h2⟩
  · rw [h]; exact ⟨rfl, .inl h⟩
  · obtain ⟨e1, e2⟩ := dro_ext (y := y) 4 p h1 h2
    cases hc : closed p with
    | true => exact ⟨rfl, .inl hc⟩
    | false => exact ⟨e1, .inr ⟨e2, by rw [e1]; exact h2⟩⟩
def Same (P : Program) (Γ : Con) (ρ : Operand → PV) (op : Op) (L L' : LH) : Prop :=
  (opF P Γ true ρ L op).pre → (opF P Γ true ρ L' op).pre ∧ (opF P Γ true ρ L' op).val = (opF P Γ true ρ L op).val
theorem same_m {ρ : Operand → PV} {op : Op} (hc : cls op = .m) (L L' : LH) : Same P Γ ρ op L L' := by
  have bad : ∀ {p : Prop}, OR.bad.pre → p := fun h => h.elim
  intro h
  cases op <;> simp only [cls] at hc <;> first | (cases hc; done) | skip
  case move x => exact ⟨trivial, rfl⟩
  case assign x => exact ⟨trivial, rfl⟩
  case pick => exact h.elim
  case call c => obtain ⟨callee, args, tys⟩ := c; cases callee <;> simp only at hc <;> first | (cases hc; done) | (rename_i b; cases b <;> simp at hc)
  all_goals simp only [opF] at h ⊢
  case build t parts =>
    have e : ∀ ps, ((buildF P t ps L').pre = (buildF P t ps L).pre) ∧ (buildF P t ps L').val = (buildF P t ps L).val := by
      intro ps
      unfold buildF
      split
      · split
        · split
          · exact ⟨rfl, rfl⟩
          · exact ⟨rfl, rfl⟩
        · exact ⟨rfl, rfl⟩
      · cases (placesF P _).all Option.isSome
        · exact ⟨rfl, rfl⟩
        · simp only [cond_true]
          split
          · exact ⟨rfl, rfl⟩
          · exact ⟨rfl, rfl⟩
      · exact ⟨rfl, rfl⟩
    exact ⟨by rw [(e _).1]; exact h, (e _).2⟩
  case buildSlice t len parts =>
    have e : ∀ ps, ((buildSliceF P true t len ps L').pre = (buildSliceF P true t len ps L).pre) ∧ (buildSliceF P true t len ps L').val = (buildSliceF P true t len ps L).val := by
      intro ps
      unfold buildSliceF
      repeat' split
      all_goals first | exact ⟨rfl, rfl⟩
    exact ⟨by rw [(e _).1]; exact h, (e _).2⟩
  case binOp op t x y yt =>
    have e : ∀ a b, ((binF P op t a b L').pre = (binF P op t a b L).pre) ∧ (binF P op t a b L').val = (binF P op t a b L).val := by
      intro a b
      unfold binF
      repeat' split
      all_goals first | exact ⟨rfl, rfl⟩
    exact ⟨by rw [(e _ _).1]; exact h, (e _ _).2⟩
  case sliceToArrayPointer t x =>
    have e : ∀ a, ((arrF P t a L').pre = (arrF P t a L).pre) ∧ (arrF P t a L').val = (arrF P t a L).val := by
      intro a
      unfold arrF
      repeat' split
      all_goals first | exact ⟨rfl, rfl⟩
    exact ⟨by rw [(e _).1]; exact h, (e _).2⟩
  case unOp op t x =>
    have e : ∀ a, ((unF op a L').pre = (unF op a L).pre) ∧ (unF op a L').val = (unF op a L).val := by
      intro a
      unfold unF
      repeat' split
      all_goals first | exact ⟨rfl, rfl⟩
    exact ⟨by rw [(e _).1]; exact h, (e _).2⟩
  case index t x i =>
    have e : ∀ a b, ((indexF P t a b L').pre = (indexF P t a b L).pre) ∧ (indexF P t a b L').val = (indexF P t a b L).val := by
      intro a b
      unfold indexF
      repeat' split
      all_goals first | exact ⟨rfl, rfl⟩
    exact ⟨by rw [(e _ _).1]; exact h, (e _ _).2⟩
  case field t x f =>
    have e : ∀ a, ((fieldF P t a f L').pre = (fieldF P t a f L).pre) ∧ (fieldF P t a f L').val = (fieldF P t a f L).val := by
      intro a
      unfold fieldF
      repeat' split
      all_goals first | exact ⟨rfl, rfl⟩
    exact ⟨by rw [(e _).1]; exact h, (e _).2⟩
  case extract x i =>
    have e : ∀ a, ((extractF a i L').pre = (extractF a i L).pre) ∧ (extractF a i L').val = (extractF a i L).val := by
      intro a
      unfold extractF
      repeat' split
      all_goals first | exact ⟨rfl, rfl⟩
    exact ⟨by rw [(e _).1]; exact h, (e _).2⟩
theorem callF_ext {g : FuncId} {args : List PV} {y : LE} (h : (callF Γ true g args L).pre) : (callF Γ true g args (L ++ [y])).pre ∧ (callF Γ true g args (L ++ [y])).val = (callF Γ true g args L).val := by
  unfold callF at h ⊢
  cases hE : Γ.tab g with
  | none => simp only [hE] at h; exact h.elim
  | ext S => simp only [hE] at h ⊢; exact ⟨h, trivial⟩
  | st T => simp only [hE, cond_true] at h; exact h.elim
  | pure S =>
    simp only [hE] at h ⊢
    unfold pureF at h ⊢
    obtain ⟨p1, p2, p3⟩ := h
    have key : args.map (borrow (L ++ [y])) = args.map (borrow L) := List.map_congr_left fun q hq => (borrow_ext (p2 q hq)).1
    simp only [key]
    refine ⟨⟨p1, fun p hp => (borrow_ext (p2 p hp)).2, p3⟩, ?_⟩
    unfold adopt
    split <;> rfl
theorem same_ext {ρ : Operand → PV} {op : Op} (hc : cls op = .r ∨ cls op = .l) (L : LH) (y : LE) : Same P Γ ρ op L (L ++ [y]) := by
  intro h
  cases op <;> simp only [cls] at hc <;> first | (rcases hc with hc | hc <;> cases hc; done) | skip
  case nilCheck x =>
    simp only [opF] at h ⊢
    split at h
    · rename_i cs hcs; simp only [hcs]; exact ⟨trivial, trivial⟩
    · rename_i id off hcs
      try simp only [hcs]
      split at h
      · rename_i cs hL; simp only [hL, get_ext hL]; exact ⟨trivial, trivial⟩
      · exact h.elim
    · exact h.elim
  case indexAddr t x i =>
    simp only [opF] at h ⊢
    unfold indexAddrF at h ⊢
    split at h
    case h_2 => exact h.elim
    split at h
    · split at h
      · exact ⟨h, rfl⟩
      · split at h
        · rename_i cs hL; simp only [hL, get_ext hL]; exact ⟨h, trivial⟩
        · exact h.elim
      · exact h.elim
    · split at h
      · split at h
        · rename_i cs hL; simp only [hL, get_ext hL]; exact ⟨h, trivial⟩
        · exact h.elim
      · exact ⟨h, rfl⟩
      · exact h.elim
    · exact h.elim
  case fieldAddr t x f =>
    simp only [opF] at h ⊢
    unfold fieldAddrF at h ⊢
    split at h
    case h_2 => exact h.elim
    split at h
    case h_2 => exact h.elim
    rename_i fd hf
    try simp only [hf]
    split at h
    · rename_i T id off hF hx
      try simp only [hF, hx]
      split at h
      · rename_i cs hL; simp only [hL, get_ext hL]; exact ⟨h, trivial⟩
      · exact h.elim
    · rename_i T cs hF hx; simp only [hF, hx]; exact ⟨h, trivial⟩
    · exact h.elim
  case load t x =>
    simp only [opF] at h ⊢
    unfold loadF at h ⊢
    split at h
    case h_2 => exact h.elim
    split at h
    · split at h
      · rename_i cs hL; simp only [hL, get_ext hL]; exact ⟨h, trivial⟩
      · exact h.elim
    · exact ⟨h, rfl⟩
    · exact h.elim
  case convert src dst x =>
    simp only [opF] at h ⊢
    simp only [convG_draw] at h ⊢
    unfold convF at h ⊢
    split at h
    case h_2 => exact h.elim
    split at h
    · exact ⟨h, rfl⟩
    · exact ⟨h, rfl⟩
    · split at h
      · rename_i hE
        simp only at h ⊢
        rw [slc_ext h.1]
        exact ⟨h, rfl⟩
      · exact h.elim
    · split at h
      · exact ⟨h, rfl⟩
      · exact h.elim
    · exact h.elim
  case slice t x lo hi mx =>
    simp only [opF] at h ⊢
    unfold sliceF at h ⊢
    split at h
    · split at h
      · split at h
        · exact ⟨h, rfl⟩
        · exact h.elim
      · split at h
        · exact ⟨h, rfl⟩
        · exact h.elim
      · split at h
        · rename_i l hh cs hl hhi hL; simp only [hl, hhi, hL, get_ext hL]; exact ⟨h, trivial⟩
        · exact h.elim
      · exact h.elim
    · split at h
      · split at h
        · rename_i cs hL; simp only [hL, get_ext hL]; exact ⟨h, trivial⟩
        · exact h.elim
      · exact ⟨h, rfl⟩
      · exact h.elim
    · split at h
      · split at h
        · exact ⟨h, rfl⟩
        · exact h.elim
      · exact h.elim
    · split at h
      · exact ⟨h, rfl⟩
      · exact h.elim
    · exact h.elim
  case call c =>
    simp only [opF] at h ⊢
    split at h
    · rename_i x t e1 e2 e3
      unfold lenF at h ⊢
      split at h
      · split at h
        · exact ⟨h, rfl⟩
        · exact ⟨h, rfl⟩
        · exact ⟨h, rfl⟩
        · split at h
          · rename_i cs hL; simp only [hL, get_ext hL]; exact ⟨h, trivial⟩
          · exact h.elim
        · exact ⟨h, rfl⟩
        · exact h.elim
      · exact h.elim
    · unfold capF at h ⊢
      split at h
      · split at h
        · exact ⟨h, rfl⟩
        · exact ⟨h, rfl⟩
        · exact h.elim
      · exact h.elim
    · unfold minF at h ⊢
      split at h
      · exact ⟨h, rfl⟩
      · exact h.elim
    · unfold maxF at h ⊢
      split at h
      · exact ⟨h, rfl⟩
      · exact h.elim
    · exfalso; simp_all
    · exfalso; simp_all
    · exact callF_ext h
    · exact h.elim
theorem same_set {ρ : Operand → PV} {op : Op} (hc : cls op = .l) {id : Nat} {c c' : List PV} (hid : L[id]? = some (.cells c)) : Same P Γ ρ op L (L.set id (.cells c')) := by
  have get : ∀ (j : Nat) cs, L[j]? = some (.cells cs) → ∃ cs', (L.set id (.cells c'))[j]? = some (.cells cs') := by
    intro j cs hj
    rw [List.getElem?_set]
    split
    · rename_i e; subst e
      have hlt := (List.getElem?_eq_some_iff.1 hid).1
      exact ⟨c', by simp [hlt]⟩
    · exact ⟨cs, hj⟩
  intro h
  cases op <;> simp only [cls] at hc <;> first | (cases hc; done) | skip
  case nilCheck x =>
    simp only [opF] at h ⊢
    split at h
    · rename_i cs hcs; simp only [hcs]; exact ⟨trivial, trivial⟩
    · rename_i id off hcs
      try simp only [hcs]
      split at h
      · rename_i cs hL; obtain ⟨cs', hL'⟩ := get _ _ hL; simp only [hL, hL']; exact ⟨trivial, trivial⟩
      · exact h.elim
    · exact h.elim
  case indexAddr t x i =>
    simp only [opF] at h ⊢
    unfold indexAddrF at h ⊢
    split at h
    case h_2 => exact h.elim
    split at h
    · split at h
      · exact ⟨h, rfl⟩
      · split at h
        · rename_i cs hL; obtain ⟨cs', hL'⟩ := get _ _ hL; simp only [hL, hL']; exact ⟨h, trivial⟩
        · exact h.elim
      · exact h.elim
    · split at h
      · split at h
        · rename_i cs hL; obtain ⟨cs', hL'⟩ := get _ _ hL; simp only [hL, hL']; exact ⟨h, trivial⟩
        · exact h.elim
      · exact ⟨h, rfl⟩
      · exact h.elim
    · exact h.elim
  case fieldAddr t x f =>
    simp only [opF] at h ⊢
    unfold fieldAddrF at h ⊢
    split at h
    case h_2 => exact h.elim
    split at h
    case h_2 => exact h.elim
    rename_i fd hf
    try simp only [hf]
    split at h
    · rename_i T id off hF hx
      try simp only [hF, hx]
      split at h
      · rename_i cs hL; obtain ⟨cs', hL'⟩ := get _ _ hL; simp only [hL, hL']; exact ⟨h, trivial⟩
      · exact h.elim
    · rename_i T cs hF hx; simp only [hF, hx]; exact ⟨h, trivial⟩
    · exact h.elim
  case call c =>
    simp only [opF] at h ⊢
    split at h
    · rename_i x t e1 e2 e3
      unfold lenF at h ⊢
      split at h
      · split at h
        · exact ⟨h, rfl⟩
        · exact ⟨h, rfl⟩
        · exact ⟨h, rfl⟩
        · split at h
          · rename_i cs hL; obtain ⟨cs', hL'⟩ := get _ _ hL; simp only [hL, hL']; exact ⟨h, trivial⟩
          · exact h.elim
        · exact ⟨h, rfl⟩
        · exact h.elim
      · exact h.elim
    · unfold capF at h ⊢
      split at h
      · split at h
        · exact ⟨h, rfl⟩
        · exact ⟨h, rfl⟩
        · exact h.elim
      · exact h.elim
    · exfalso; simp_all
    · exfalso; simp_all
    · exfalso; simp_all
    · exfalso; simp_all
    · exfalso; simp_all
    · exact h.elim
theorem same_load {ρ : Operand → PV} {t : TypeId} {a : Operand} {id : Nat} {x : LE} (hne : (∃ q off, ρ a = .ptr q off ∧ q ≠ id) ∨ ∃ cs, ρ a = .rptr cs) : Same P Γ ρ (.load t a) L (L.set id x) := by
  intro h
  simp only [opF] at h ⊢
  unfold loadF at h ⊢
  split at h
  case h_2 => exact h.elim
  rcases hne with ⟨q, off, hq, hne⟩ | ⟨cs, hq⟩
  · rw [hq] at h ⊢
    simp only at h ⊢
    rw [List.getElem?_set_ne (Ne.symm hne)]
    split at h
    · rename_i cs hL; simp only [hL]; exact ⟨h, trivial⟩
    · exact h.elim
  · rw [hq] at h ⊢
    exact ⟨h, rfl⟩
theorem same_free {ρ : Operand → PV} {op : Op} (h : (∃ t a i, op = .indexAddr t a i ∧ ((∃ cs, ρ a = .rptr cs) ∨ ∃ n cs, ρ a = .ro n cs)) ∨ (∃ t a cs, op = .load t a ∧ ρ a = .rptr cs) ∨ ∃ t a lo hi mx n cs, op = .slice t a lo hi mx ∧ ρ a = .ro n cs) (L L' : LH) : Same P Γ ρ op L L' := by
  intro hp
  rcases h with ⟨t, a, i, rfl, ha⟩ | ⟨t, a, cs, rfl, ha⟩ | ⟨t, a, lo, hi, mx, n, cs, rfl, ha⟩
  · simp only [opF] at hp ⊢
    unfold indexAddrF at hp ⊢
    rcases ha with ⟨cs, ha⟩ | ⟨n, cs, ha⟩ <;> rw [ha] at hp ⊢ <;> (split at hp <;> (try exact hp.elim)) <;> (split at hp <;> (try exact hp.elim)) <;> (split at hp <;> (try exact hp.elim)) <;> simp_all
  · simp only [opF] at hp ⊢
    unfold loadF at hp ⊢
    rw [ha] at hp ⊢
    split at hp
    · exact ⟨hp, rfl⟩
    · exact hp.elim
  · simp only [opF] at hp ⊢
    unfold sliceF at hp ⊢
    rw [ha] at hp ⊢
    (split at hp <;> (try exact hp.elim)) <;> (try (split at hp <;> (try exact hp.elim))) <;> (try (split at hp <;> (try exact hp.elim))) <;> simp_all
theorem same_row {ρ : Operand → PV} {op : Op} {r : Nat} (h : (∃ t a off, op = .load t a ∧ ρ a = .ptr r off) ∨ ∃ t a i off, op = .indexAddr t a i ∧ ρ a = .ptr r off) {L L' : LH} (he : L'[r]? = L[r]?) : Same P Γ ρ op L L' := by
  intro hp
  rcases h with ⟨t, a, off, rfl, ha⟩ | ⟨t, a, i, off, rfl, ha⟩
  · simp only [opF] at hp ⊢
    unfold loadF at hp ⊢
    rw [ha] at hp ⊢
    split at hp
    case h_2 => exact hp.elim
    simp only at hp ⊢
    rw [he]
    split at hp
    · rename_i cs hL; simp only [hL]; exact ⟨hp, trivial⟩
    · exact hp.elim
  · simp only [opF] at hp ⊢
    unfold indexAddrF at hp ⊢
    rw [ha] at hp ⊢
    (split at hp <;> (try exact hp.elim)) <;> (split at hp <;> (try exact hp.elim)) <;> (split at hp <;> (try exact hp.elim)) <;> simp_all <;> (split at hp <;> first | exact hp.elim | simp_all)
theorem stepV0_same {all : List Oper} {o : Oper} {env : Env} {v : PV} {L' : LH} (h : stepV0 P Γ true all o env L v L) (hs : Same P Γ (evalIn env) o.op L L') : stepV0 P Γ true all o env L' v L' := by
  rcases h with ⟨hg, ⟨c, a, b, t, h1, h2, h3, _⟩ | ⟨h1, h2, _⟩⟩ | ⟨hg, h2, _⟩
  · exact .inl ⟨hg, .inl ⟨c, a, b, t, h1, h2, h3, rfl⟩⟩
  · obtain ⟨e1, e2⟩ := hs h1
    exact .inl ⟨hg, .inr ⟨e1, by rw [h2, e2], (opF_draw e1).symm⟩⟩
  · exact .inr ⟨hg, h2, rfl⟩
theorem stepV_same {all : List Oper} {o : Oper} {env : Env} {v : PV} {L' : LH} (h : stepV P Γ true all o env L v L) (hs : ∀ Γ, Same P Γ (evalIn env) o.op L L') : stepV P Γ true all o env L' v L' := by
  obtain ⟨Γ', hΓ', h⟩ := h
  exact ⟨Γ', hΓ', stepV0_same h (hs Γ')⟩
theorem step_a0 {all : List Oper} {o : Oper} {env : Env} {v : PV} {L' : LH} (hc : cls o.op = .a) (h : stepV0 P Γ false all o env L v L') : L' = L ∨ ∃ y, L' = L ++ [y] := by
  rcases h with ⟨_, ⟨_, _, _, _, _, _, _, h⟩ | ⟨h1, _, h2⟩⟩ | ⟨_, _, h⟩
  · exact .inl h
  · right
    rw [h2]
    cases hop : o.op <;> rw [hop] at hc <;> simp only [cls] at hc <;> first | (cases hc; done) | skip
    case alloc t =>
      rw [hop] at h1
      simp only [opF] at h1 ⊢
      unfold allocF at h1 ⊢
      split at h1
      · exact ⟨_, rfl⟩
      · exact h1.elim
    case box t x =>
      rw [hop] at h1
      simp only [opF] at h1 ⊢
      exact ⟨_, rfl⟩
    case makeSlice t l c =>
      rw [hop] at h1
      simp only [opF] at h1 ⊢
      unfold makeF at h1 ⊢
      split at h1
      · split at h1
        · exact ⟨_, rfl⟩
        · exact h1.elim
      · exact h1.elim
    case call c => obtain ⟨callee, args, tys⟩ := c; cases callee <;> simp only at hc <;> first | (cases hc; done) | (rename_i b; cases b <;> simp at hc)
  · exact .inl h
theorem step_a {all : List Oper} {o : Oper} {env : Env} {v : PV} {L' : LH} (hc : cls o.op = .a) (h : stepV P Γ false all o env L v L') : L' = L ∨ ∃ y, L' = L ++ [y] := by
  obtain ⟨_, _, h⟩ := h
  exact step_a0 hc h
theorem step_s0 {all : List Oper} {o : Oper} {env : Env} {v : PV} {L' : LH} (hc : cls o.op = .s) (h : stepV0 P Γ false all o env L v L') :
    L' = L ∨ ∃ id c c', L[id]? = some (.cells c) ∧ L' = L.set id (.cells c') ∧ ∀ t x y, o.op = .store t x y → ∃ off, evalIn env x = .ptr id off := by
  rcases h with ⟨_, ⟨_, _, _, _, _, _, _, h⟩ | ⟨h1, _, h2⟩⟩ | ⟨_, _, h⟩
  · exact .inl h
  · right
    rw [h2]
    cases hop : o.op <;> rw [hop] at hc <;> simp only [cls] at hc <;> first | (cases hc; done) | skip
    case store t x y =>
      rw [hop] at h1
      simp only [opF] at h1 ⊢
      unfold storeF at h1 ⊢
      split at h1
      · split at h1
        · rename_i id off hx
          split at h1
          · rename_i cs hL
            simp only [hx, hL]
            refine ⟨id, cs, _, hL, rfl, fun t' x' y' e => ?_⟩
            cases e
            exact ⟨off, hx⟩
          · exact h1.elim
        · exact h1.elim
      · exact h1.elim
    case call c =>
      rw [hop] at h1
      simp only [opF] at h1 ⊢
      split at h1
      · exfalso; simp_all
      · exfalso; simp_all
      · exfalso; simp_all
      · exfalso; simp_all
      · exfalso; simp_all
      · unfold copyF at h1 ⊢
        split at h1
        · split at h1
          · split at h1
            · rename_i cs hL
              simp only [*]
              exact ⟨_, cs, _, hL, rfl, fun t' x' y' e => by cases e⟩
            · exact h1.elim
          · exact h1.elim
        · exact h1.elim
      · exfalso; simp_all
      · exact h1.elim
  · exact .inl h
theorem step_s {all : List Oper} {o : Oper} {env : Env} {v : PV} {L' : LH} (hc : cls o.op = .s) (h : stepV P Γ false all o env L v L') :
    L' = L ∨ ∃ id c c', L[id]? = some (.cells c) ∧ L' = L.set id (.cells c') ∧ ∀ t x y, o.op = .store t x y → ∃ off, evalIn env x = .ptr id off := by
  obtain ⟨_, _, h⟩ := h
  exact step_s0 hc h
theorem step_k0 {all : List Oper} {o : Oper} {env : Env} {v : PV} {L' : LH} {s : Operand} (hb : apBase o.op = some s) (h : stepV0 P Γ false all o env L v L') :
    L' = L ∨ (∃ n sz y, L' = L ++ [y] ∧ v = .own L.length 0 n sz) ∨ ∃ id off n sz n' sz' y, evalIn env s = .own id off n sz ∧ L' = L.set id .dead ++ [y] ∧ v = .own L.length 0 n' sz' := by
  rcases h with ⟨_, ⟨_, _, _, _, _, _, _, h⟩ | ⟨h1, hv, h2⟩⟩ | ⟨_, _, h⟩
  · exact .inl h
  · right
    rw [h2, hv]
    cases hop : o.op <;> rw [hop] at hb <;> simp only [apBase] at hb <;> first | (cases hb; done) | skip
    rename_i c
    split at hb
    · rename_i s' x t1 t2 e1 e2 e3
      cases hb
      rw [hop] at h1
      simp only [opF, e1, e2, e3] at h1 ⊢
      unfold appF at h1 ⊢
      split at h1
      · split at h1
        · split at h1
          · exact .inl ⟨_, _, _, rfl, rfl⟩
          · rename_i id off n sz hs
            simp only [hs, kill]
            exact .inr ⟨_, _, _, _, _, _, _, rfl, rfl, rfl⟩
          · exact h1.elim
        · exact h1.elim
      · exact h1.elim
    · cases hb
  · exact .inl h
theorem step_k {all : List Oper} {o : Oper} {env : Env} {v : PV} {L' : LH} {s : Operand} (hb : apBase o.op = some s) (h : stepV P Γ false all o env L v L') :
    L' = L ∨ (∃ n sz y, L' = L ++ [y] ∧ v = .own L.length 0 n sz) ∨ ∃ id off n sz n' sz' y, evalIn env s = .own id off n sz ∧ L' = L.set id .dead ++ [y] ∧ v = .own L.length 0 n' sz' := by
  obtain ⟨Γ', hΓ', h⟩ := h
  exact step_k0 hb h
end Go.Ab
