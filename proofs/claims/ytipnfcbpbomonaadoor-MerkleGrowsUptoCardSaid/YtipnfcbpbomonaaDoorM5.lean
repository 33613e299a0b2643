import Derived.Test.YtipnfcbpbomonaaDoorM4
namespace Go.Ab
open Go Go.RowKit
set_option linter.unusedVariables false
set_option linter.unusedSimpArgs false
variable {P : Program} {Γ : Con} {X : Nat → Prop} {β : List Base} {w : World} {L : LH} {N B : Nat} {rr : Option Nat}
theorem callF_draw {g : FuncId} {args : List PV} (h : (callF Γ true g args L).pre) : (callF Γ true g args L).L = L := by
  unfold callF at h ⊢
  cases hE : Γ.tab g with
  | none => simp only [hE] at h; exact h.elim
  | ext S => rfl
  | st T => simp only [hE, cond_true] at h; exact h.elim
  | pure S => simp only [pureF, adopt]; repeat' split <;> simp [fresh]
theorem opF_draw {ρ : Operand → PV} {op : Op} (h : (opF P Γ true ρ L op).pre) : (opF P Γ true ρ L op).L = L := by
  have bad : ∀ {p : Prop}, OR.bad.pre → p := fun h => h.elim
  cases op <;> (try simp only [opF] at h ⊢) <;> try (first | rfl | exact bad h)
  case makeFunc fn first captured => cases fn <;> first | rfl | exact bad h
  case alloc t => unfold allocF at h ⊢; split <;> simp_all [OR.bad]
  case buildSlice t len parts => unfold buildSliceF at h ⊢; repeat' split <;> simp_all [OR.bad, fresh]
  case build t parts =>
    unfold buildF at h ⊢
    split
    · repeat' split <;> simp_all [OR.bad]
    · rename_i fs _ _ z hT
      simp only [hT] at h
      cases hq : (placesF P fs.toList).all Option.isSome with
      | false => simp only [hq, cond_false] at h; exact bad h
      | true =>
        simp only [hq, cond_true] at h ⊢
        repeat' split <;> simp_all [OR.bad]
    · simp_all [OR.bad]
  case fieldAddr t x f => unfold fieldAddrF at h ⊢; repeat' split <;> simp_all [OR.bad]
  case load t x => unfold loadF at h ⊢; repeat' split <;> simp_all [OR.bad]
  case store t a x => unfold storeF at h ⊢; repeat' split <;> simp_all [OR.bad]
  case nilCheck x => repeat' split <;> simp_all [OR.bad]
  case binOp op t x y yt => unfold binF at h ⊢; repeat' split <;> simp_all [OR.bad]
  case unOp op t x => unfold unF at h ⊢; repeat' split <;> simp_all [OR.bad]
  case convert s d x => simp only [convG_draw] at h ⊢; unfold convF at h ⊢; repeat' split <;> simp_all [OR.bad]
  case makeSlice t l c => unfold makeF at h ⊢; repeat' split <;> simp_all [OR.bad, fresh]
  case slice t x lo hi mx => unfold sliceF at h ⊢; repeat' split <;> simp_all [OR.bad]
  case indexAddr t x i => unfold indexAddrF at h ⊢; repeat' split <;> simp_all [OR.bad]
  case index t x i => unfold indexF at h ⊢; repeat' split <;> simp_all [OR.bad]
  case sliceToArrayPointer t x => unfold arrF at h ⊢; repeat' split <;> simp_all [OR.bad]
  case field t x f => unfold fieldF at h ⊢; repeat' split <;> simp_all [OR.bad]
  case extract x i => unfold extractF at h ⊢; repeat' split <;> simp_all [OR.bad]
  case call c =>
    split
    · rename_i x t _ _ _; simp_all only; unfold lenF at h ⊢; repeat' split <;> simp_all [OR.bad]
    · simp_all only; unfold capF at h ⊢; repeat' split <;> simp_all [OR.bad]
    · simp_all only; unfold minF at h ⊢; repeat' split <;> simp_all [OR.bad]
    · simp_all only; unfold maxF at h ⊢; repeat' split <;> simp_all [OR.bad]
    · simp_all only; unfold appF at h ⊢; repeat' split <;> simp_all [OR.bad, fresh]
    · simp_all only; unfold copyF at h ⊢; repeat' split <;> simp_all [OR.bad]
    · simp_all only; exact callF_draw h
    · simp_all [OR.bad]
theorem stepV0_draw {all : List Oper} {o : Oper} {env : Env} {v : PV} {L' : LH} (h : stepV0 P Γ true all o env L v L') : L' = L := by
  rcases h with ⟨_, ⟨_, _, _, _, _, _, _, h⟩ | ⟨h1, _, h2⟩⟩ | ⟨_, _, h⟩
  · exact h
  · rw [h2]; exact opF_draw h1
  · exact h
theorem stepV_draw {all : List Oper} {o : Oper} {env : Env} {v : PV} {L' : LH} (h : stepV P Γ true all o env L v L') : L' = L := by
  obtain ⟨_, _, h⟩ := h
  exact stepV0_draw h
def puts (env : Env) (ps : List (Option Nat × PV)) : Env := ps.foldl (fun e x => putIn e x.1 x.2) env
theorem lookup_put_ne {env : Env} {d : Option Nat} {p : PV} {t : Nat} (h : d ≠ some t) : lookup (putIn env d p) t = lookup env t := by
  cases d with
  | none => rfl
  | some d =>
    have hne : d ≠ t := fun e => h (by rw [e])
    have hb : (d == t) = false := by
      cases hh : (d == t)
      · rfl
      · exact absurd (eq_of_beq hh) hne
    simp [putIn, lookup, hb]
theorem lookup_put_eq {env : Env} {p : PV} {t : Nat} : lookup (putIn env (some t) p) t = p := by
  simp [putIn, lookup, beq_self_eq_true]
theorem puts_none : ∀ {ps : List (Option Nat × PV)} {env : Env} {t : Nat}, (∀ x ∈ ps, x.1 ≠ some t) → lookup (puts env ps) t = lookup env t
  | [], env, t, _ => rfl
  | x :: ps, env, t, h => by
    show lookup (puts (putIn env x.1 x.2) ps) t = _
    rw [puts_none (fun y hy => h y (by simp [hy])), lookup_put_ne (h x (by simp))]
theorem puts_some : ∀ {ps : List (Option Nat × PV)} {env : Env} {t : Nat} {v : PV}, (∃ x ∈ ps, x.1 = some t) → (∀ x ∈ ps, x.1 = some t → x.2 = v) → lookup (puts env ps) t = v
  | [], env, t, v, h, _ => by simp at h
  | x :: ps, env, t, v, h, hu => by
    show lookup (puts (putIn env x.1 x.2) ps) t = _
    by_cases hin : ∃ y ∈ ps, y.1 = some t
    · exact puts_some hin (fun y hy => hu y (by simp [hy]))
    · rw [puts_none (fun y hy e => hin ⟨y, hy, e⟩)]
      obtain ⟨y, hy, he⟩ := h
      rcases List.mem_cons.1 hy with rfl | hy
      · have := hu y (by simp) he
        rw [he, lookup_put_eq, this]
      · exact absurd ⟨y, hy, he⟩ hin
theorem trun_vals {all : List Oper} : ∀ {ops : List Oper} {env env' : Env} {L' : LH}, TRun P Γ true all ops env L env' L' →
    L' = L ∧ ∃ vs : List PV, vs.length = ops.length ∧ env' = puts env ((ops.map (·.dst)).zip vs) ∧ ∀ (i : Nat) o v, ops[i]? = some o → vs[i]? = some v → stepV P Γ true all o (puts env (((ops.map (·.dst)).zip vs).take i)) L v L
  | [], env, env', L', h => by
    obtain ⟨rfl, rfl⟩ := h
    exact ⟨rfl, [], rfl, rfl, fun i o v ho => by simp at ho⟩
  | o :: ops, env, env', L', h => by
    obtain ⟨v, L1, hs, hr⟩ := h
    have hL := stepV_draw hs
    rw [hL] at hs hr
    obtain ⟨h1, vs, h2, h3, h4⟩ := trun_vals hr
    refine ⟨h1, v :: vs, by simp [h2], by rw [h3]; rfl, fun i q u hq hu => ?_⟩
    cases i with
    | zero => simp at hq hu; subst hq hu; exact hs
    | succ i => simp at hq hu; exact h4 i q u hq hu
theorem countP_lt {p q : Nat → Bool} : ∀ {l : List Nat}, (∀ x ∈ l, q x = true → p x = true) → (∃ x ∈ l, p x = true ∧ q x = false) → l.countP q < l.countP p
  | [], _, h => by simp at h
  | x :: l, h, he => by
    have hle : l.countP q ≤ l.countP p := List.countP_mono_left (fun y hy => h y (by simp [hy]))
    simp only [List.countP_cons]
    obtain ⟨y, hy, h1, h2⟩ := he
    rcases List.mem_cons.1 hy with rfl | hy
    · rw [h1, h2]; simp; omega
    · have := countP_lt (l := l) (fun z hz => h z (by simp [hz])) ⟨y, hy, h1, h2⟩
      have hx := h x (by simp)
      cases hq : q x
      · cases hp : p x <;> simp <;> omega
      · rw [hx hq]; simp; omega
section draw
variable {all : List Oper} {vs : List PV} {env0 : Env} {Q : Exit → Act → World → Prop}
def psOf (all : List Oper) (vs : List PV) (S : List Nat) : List (Option Nat × PV) := S.filterMap fun i => ((all.map (·.dst)).zip vs)[i]?
theorem mem_psOf {S : List Nat} {x : Option Nat × PV} : x ∈ psOf all vs S ↔ ∃ i ∈ S, ((all.map (·.dst)).zip vs)[i]? = some x := by
  simp [psOf, List.mem_filterMap]
theorem zip_get (hl : vs.length = all.length) {i : Nat} {x : Option Nat × PV} : ((all.map (·.dst)).zip vs)[i]? = some x ↔ ∃ o, all[i]? = some o ∧ x.1 = o.dst ∧ vs[i]? = some x.2 := by
  rw [List.getElem?_zip_eq_some]
  constructor
  · rintro ⟨h1, h2⟩
    rw [List.getElem?_map, Option.map_eq_some_iff] at h1
    obtain ⟨o, h3, h4⟩ := h1
    exact ⟨o, h3, h4.symm, h2⟩
  · rintro ⟨o, h1, h2, h3⟩
    exact ⟨by rw [List.getElem?_map, h1, h2]; rfl, h3⟩
theorem draw_agree (hok : drawOk all = true) (hl : vs.length = all.length) {S : List Nat} (hcl : ∀ j ∈ S, ∀ q, all[j]? = some q → ∀ e ∈ q.after.toList, Region.binds .any e = true → e.on ∈ S)
    {i : Nat} {o : Oper} (hi : all[i]? = some o) (hiS : i ∉ S) (hdep : ∀ e ∈ o.after.toList, Region.binds .any e = true → e.on ∈ S) {t : Nat} (ht : t ∈ reads all o) :
    lookup (puts env0 (((all.map (·.dst)).zip vs).take i)) t = lookup (puts env0 (psOf all vs S)) t := by
  obtain ⟨_, h2, h3⟩ := drawOk_spec hok
  by_cases hw : ∃ (j : Nat) (q : Oper), all[j]? = some q ∧ q.dst = some t
  · obtain ⟨j, q, hj, hq⟩ := hw
    have hjl : j < vs.length := by rw [hl]; exact (List.getElem?_eq_some_iff.1 hj).1
    have huniq : ∀ (k : Nat) x, ((all.map (·.dst)).zip vs)[k]? = some x → x.1 = some t → k = j ∧ x.2 = vs[j] := by
      intro k x hx ht
      obtain ⟨r, e1, e2, e3⟩ := (zip_get hl).1 hx
      have : k = j := h3 k r j q t e1 hj hq (by rw [← e2]; exact ht)
      subst this
      rw [List.getElem?_eq_getElem hjl] at e3
      exact ⟨rfl, (Option.some.inj e3).symm⟩
    rcases h2 i o j q t hi hj hq ht with ⟨hlt, hb⟩ | ⟨hlt, hb⟩
    · have hjS : j ∈ S := by
        unfold bound at hb
        rw [hi] at hb
        simp only [List.any_eq_true, Bool.and_eq_true, beq_iff_eq] at hb
        obtain ⟨e, he, hbe, hon⟩ := hb
        rw [← hon]; exact hdep e he hbe
      have hz : ((all.map (·.dst)).zip vs)[j]? = some (some t, vs[j]) := (zip_get hl).2 ⟨q, hj, hq.symm, by simp [hjl]⟩
      rw [puts_some (v := vs[j]) ⟨_, List.mem_take_iff_getElem.2 (by
          have hz' := List.getElem?_eq_some_iff.1 hz
          obtain ⟨hz1, hz2⟩ := hz'
          exact ⟨j, by omega, hz2⟩), rfl⟩ (fun x hx he => by
          obtain ⟨k, hk⟩ := List.getElem?_of_mem (List.mem_of_mem_take hx)
          exact (huniq k x hk he).2)]
      rw [puts_some (v := vs[j]) ⟨_, mem_psOf.2 ⟨j, hjS, hz⟩, rfl⟩ (fun x hx he => by
          obtain ⟨k, _, hk⟩ := mem_psOf.1 hx
          exact (huniq k x hk he).2)]
    · have hjS : j ∉ S := by
        intro hjS
        unfold bound at hb
        rw [hj] at hb
        simp only [List.any_eq_true, Bool.and_eq_true, beq_iff_eq] at hb
        obtain ⟨e, he, hbe, hon⟩ := hb
        exact hiS (hon ▸ hcl j hjS q hj e he hbe)
      rw [puts_none (fun x hx he => by
          obtain ⟨k, hk⟩ := List.getElem?_of_mem hx
          rw [List.getElem?_take] at hk
          split at hk
          · have := (huniq k x hk he).1
            omega
          · cases hk)]
      rw [puts_none (fun x hx he => by
          obtain ⟨k, hkS, hk⟩ := mem_psOf.1 hx
          exact hjS ((huniq k x hk he).1 ▸ hkS))]
  · rw [puts_none (fun x hx he => by
      obtain ⟨k, hk⟩ := List.getElem?_of_mem (List.mem_of_mem_take hx)
      obtain ⟨r, e1, e2, e3⟩ := (zip_get hl).1 hk
      exact hw ⟨k, r, e1, by rw [← e2]; exact he⟩)]
    rw [puts_none (fun x hx he => by
      obtain ⟨k, _, hk⟩ := mem_psOf.1 hx
      obtain ⟨r, e1, e2, e3⟩ := (zip_get hl).1 hk
      exact hw ⟨k, r, e1, by rw [← e2]; exact he⟩)]
theorem draw_end (hok : drawOk all = true) (hl : vs.length = all.length) {S : List Nat} (hall : ∀ i, i < all.length → i ∈ S) (t : Nat) :
    lookup (puts env0 ((all.map (·.dst)).zip vs)) t = lookup (puts env0 (psOf all vs S)) t := by
  obtain ⟨_, _, h3⟩ := drawOk_spec hok
  by_cases hw : ∃ (j : Nat) (q : Oper), all[j]? = some q ∧ q.dst = some t
  · obtain ⟨j, q, hj, hq⟩ := hw
    have hjl : j < vs.length := by rw [hl]; exact (List.getElem?_eq_some_iff.1 hj).1
    have huniq : ∀ (k : Nat) x, ((all.map (·.dst)).zip vs)[k]? = some x → x.1 = some t → k = j ∧ x.2 = vs[j] := by
      intro k x hx ht
      obtain ⟨r, e1, e2, e3⟩ := (zip_get hl).1 hx
      have : k = j := h3 k r j q t e1 hj hq (by rw [← e2]; exact ht)
      subst this
      rw [List.getElem?_eq_getElem hjl] at e3
      exact ⟨rfl, (Option.some.inj e3).symm⟩
    have hz : ((all.map (·.dst)).zip vs)[j]? = some (some t, vs[j]) := (zip_get hl).2 ⟨q, hj, hq.symm, by simp [hjl]⟩
    rw [puts_some (v := vs[j]) ⟨_, List.mem_of_getElem? hz, rfl⟩ (fun x hx he => by
      obtain ⟨k, hk⟩ := List.getElem?_of_mem hx
      exact (huniq k x hk he).2)]
    rw [puts_some (v := vs[j]) ⟨_, mem_psOf.2 ⟨j, hall j (by omega), hz⟩, rfl⟩ (fun x hx he => by
      obtain ⟨k, _, hk⟩ := mem_psOf.1 hx
      exact (huniq k x hk he).2)]
  · rw [puts_none (fun x hx he => by
      obtain ⟨k, hk⟩ := List.getElem?_of_mem hx
      obtain ⟨r, e1, e2, e3⟩ := (zip_get hl).1 hk
      exact hw ⟨k, r, e1, by rw [← e2]; exact he⟩)]
    rw [puts_none (fun x hx he => by
      obtain ⟨k, _, hk⟩ := mem_psOf.1 hx
      obtain ⟨r, e1, e2, e3⟩ := (zip_get hl).1 hk
      exact hw ⟨k, r, e1, by rw [← e2]; exact he⟩)]
theorem mem_ready' {S : List Nat} {listed : Array Bool} (hsz : listed.size = all.length) (hS : ∀ i, i < all.length → listed[i]? = some (decide (i ∈ S))) (hSl : ∀ i ∈ S, i < all.length) {i : Nat} :
    i ∈ Region.ready .any all.toArray listed ↔ ∃ o, all[i]? = some o ∧ i ∉ S ∧ ∀ e ∈ o.after.toList, Region.binds .any e = true → e.on ∈ S := by
  have hg : ∀ (k : Nat) (d : Bool), listed.getD k d = if k < all.length then decide (k ∈ S) else d := by
    intro k d
    simp only [Array.getD_eq_getD_getElem?]
    split
    · rename_i h; rw [hS k h]; rfl
    · rename_i h
      rw [Array.getElem?_eq_none (by omega)]; rfl
  simp only [Region.ready, List.mem_filter, List.mem_range, List.size_toArray, Bool.and_eq_true, Bool.not_eq_true', List.getElem?_toArray]
  constructor
  · rintro ⟨hlt, h1, h2⟩
    rw [hg, if_pos hlt] at h1
    have hget := List.getElem?_eq_getElem hlt
    refine ⟨all[i], hget, by simpa using h1, fun e he hb => ?_⟩
    rw [hget] at h2
    simp only [Option.map_some, Option.getD_some] at h2
    have := (Array.all_eq_true_iff_forall_mem.1 h2) e (by simpa using he)
    rw [hb] at this
    simp only [Bool.not_true, Bool.false_or] at this
    rw [hg] at this
    split at this
    · simpa using this
    · cases this
  · rintro ⟨o, ho, h1, h2⟩
    have hlt := (List.getElem?_eq_some_iff.1 ho).1
    refine ⟨hlt, by rw [hg, if_pos hlt]; simpa using h1, ?_⟩
    rw [ho]
    simp only [Option.map_some, Option.getD_some]
    rw [Array.all_eq_true_iff_forall_mem]
    intro e he
    cases hb : Region.binds .any e
    · rfl
    · have := h2 e (by simpa using he) hb
      simp only [Bool.not_true, Bool.false_or]
      rw [hg, if_pos (hSl _ this)]
      simpa using this
theorem ready_nil (hok : drawOk all = true) {S : List Nat} {listed : Array Bool} (hsz : listed.size = all.length) (hS : ∀ i, i < all.length → listed[i]? = some (decide (i ∈ S))) (hSl : ∀ i ∈ S, i < all.length)
    (hr : Region.ready .any all.toArray listed = []) : ∀ i, i < all.length → i ∈ S := by
  intro i
  induction i using Nat.strongRecOn with
  | _ i ih =>
    intro hi
    refine Decidable.byContradiction fun hn => ?_
    have : i ∈ Region.ready .any all.toArray listed := (mem_ready' hsz hS hSl).2 ⟨all[i], by simp [hi], hn, fun e he hb => by
      have := (drawOk_spec hok).1 i all[i] (by simp [hi]) e he hb
      exact ih e.on this (by omega)⟩
    rw [hr] at this
    simp at this
theorem draw_sound (hΓ : GammaOk P Γ) (hok : drawOk all = true) (hl : vs.length = all.length) (hd : ∀ o ∈ all, ∀ d, o.dst = some d → d < N)
    (hv : ∀ (i : Nat) o v, all[i]? = some o → vs[i]? = some v → stepV P Γ true all o (puts env0 (((all.map (·.dst)).zip vs).take i)) L v L)
    (w0 : World) (hQ : ∀ a' w', RepA N B X β w' (puts env0 ((all.map (·.dst)).zip vs)) a' → RepH X β w' L → Grow β β w0 w' → Q .normal a' w') :
    ∀ (fuel : Nat) (S : List Nat) (listed : Array Bool) (a : Act) (w : World), (List.range all.length).countP (fun i => decide (i ∉ S)) ≤ fuel → listed.size = all.length → (∀ i, i < all.length → listed[i]? = some (decide (i ∈ S))) → (∀ i ∈ S, i < all.length) →
      (∀ j ∈ S, ∀ q, all[j]? = some q → ∀ e ∈ q.after.toList, Region.binds .any e = true → e.on ∈ S) →
      RepA N B X β w (puts env0 (psOf all vs S)) a → RepH X β w L → Grow β β w0 w → wpAnyIn (FF rr) 0 P .any all.toArray Q fuel listed a w := by
  have fin : ∀ (S : List Nat) (a : Act) (w : World), (∀ i, i < all.length → i ∈ S) → RepA N B X β w (puts env0 (psOf all vs S)) a → RepH X β w L → Grow β β w0 w → Q .normal a w := by
    intro S a w hall hA hH hg
    exact hQ a w ⟨hA.size, hA.defers, fun t => by rw [draw_end hok hl hall t]; exact hA.slot t, hA.glob⟩ hH hg
  intro fuel
  induction fuel with
  | zero =>
    intro S listed a w hc hsz hS hSl hcl hA hH hg
    have hall : ∀ i, i < all.length → i ∈ S := by
      intro i hi
      have h0 : (List.range all.length).countP (fun i => decide (i ∉ S)) = 0 := Nat.le_zero.1 hc
      rw [List.countP_eq_zero] at h0
      have := h0 i (by simp [hi])
      simpa using this
    refine ⟨?_, fin S a w hall hA hH hg⟩
    rw [List.eq_nil_iff_forall_not_mem]
    intro i hi
    obtain ⟨o, ho, hn, _⟩ := (mem_ready' hsz hS hSl).1 hi
    exact hn (hall i (List.getElem?_eq_some_iff.1 ho).1)
  | succ fuel ih =>
    intro S listed a w hc hsz hS hSl hcl hA hH hg
    refine ⟨fun hr => fin S a w (ready_nil hok hsz hS hSl hr) hA hH hg, fun i hi => ?_⟩
    obtain ⟨o, ho, hn, hdep⟩ := (mem_ready' hsz hS hSl).1 hi
    have hil := (List.getElem?_eq_some_iff.1 ho).1
    have hiv : i < vs.length := by omega
    have hstep := hv i o vs[i] ho (by simp [hiv])
    have hstep' := stepV_congr (fun t ht => draw_agree (env0 := env0) hok hl hcl ho hn hdep ht) hstep
    have hps : puts env0 (psOf all vs (S ++ [i])) = putIn (puts env0 (psOf all vs S)) o.dst vs[i] := by
      have hz : ((all.map (·.dst)).zip vs)[i]? = some (o.dst, vs[i]) := (zip_get hl).2 ⟨o, ho, rfl, by simp [hiv]⟩
      simp [puts, psOf, List.filterMap_append, hz]
    have := step_sound (rr := rr) (Q := Q) (K := wpAnyIn (FF rr) 0 P .any all.toArray Q fuel (listed.setIfInBounds i true)) hΓ hstep' hA hH (hd o (List.mem_of_getElem? ho)) (fun a1 w1 β1 e1 e2 e3 e4 => by
      obtain ⟨rfl, _⟩ := e4 rfl
      refine ih (S ++ [i]) _ a1 w1 ?_ (by simp [hsz]) (fun k hk => ?_) (fun k hk => ?_) (fun j hj q hq e he hb => ?_) (by rw [hps]; exact e1) e2 (hg.trans e3)
      · have := countP_lt (p := fun k => decide (k ∉ S)) (q := fun k => decide (k ∉ S ++ [i])) (l := List.range all.length) (fun x _ hx => by simp at hx ⊢; exact hx.1) ⟨i, by simp [hil], by simpa using hn, by simp⟩
        omega
      · by_cases hki : k = i
        · subst hki
          simp [hsz, hk]
        · rw [Array.getElem?_setIfInBounds_ne (Ne.symm hki), hS k hk]
          simp [hki]
      · rcases List.mem_append.1 hk with h | h
        · exact hSl k h
        · simp at h; omega
      · rcases List.mem_append.1 hj with h | h
        · exact List.mem_append_left _ (hcl j h q hq e he hb)
        · simp at h; subst h
          rw [ho] at hq; cases hq
          exact List.mem_append_left _ (hdep e he hb))
    unfold wpOpIn
    have hget : all.toArray[i]? = some o := by simpa using ho
    rw [hget]
    simp only
    split
    · rename_i hw; rw [if_pos hw] at this; exact this
    · rename_i hw; rw [if_neg hw] at this; exact ⟨fun f _ => FF_fn rr f, this⟩
theorem grow_drew_id : Grow β β w { w with drawn := w.drawn + 1 } := grow_drew
theorem region_draw (hΓ : GammaOk P Γ) (hm : P.follows .mixedOrders = true) {id : Nat} {env env' : Env} {L' : LH} {a : Act} (hok : drawOk all = true) (hd : ∀ o ∈ all, ∀ d, o.dst = some d → d < N)
    (h : TRun P Γ true all all env L env' L') (hA : RepA N B X β w env a) (hH : RepH X β w L)
    (hQ : ∀ a' w', RepA N B X β w' env' a' → RepH X β w' L' → Grow β β w w' → Q .normal a' w') : (Code.region id all.toArray true).wpIn (FF rr) 0 P Q a w := by
  obtain ⟨rfl, vs, h2, rfl, h4⟩ := trun_vals h
  refine wpIn_region_any hm ?_
  have hH' : RepH X β { w with drawn := w.drawn + 1 } L' := hH.same grow_drew_id (fun _ _ => rfl)
  have := draw_sound (rr := rr) (Q := Q) (N := N) (X := X) (β := β) hΓ hok h2 hd h4 w hQ all.length [] (Array.replicate all.length false) a { w with drawn := w.drawn + 1 }
    (Nat.le_trans List.countP_le_length (by simp)) (by simp) (fun i hi => by simp [hi]) (by simp) (by simp) (hA.grow grow_drew_id) hH' grow_drew_id
  simpa using this
end draw
def clr (L : LH) (n : Nat) (cs : List PV) : List PV := bif closedL cs then cs else cs.map (dro L n)
def clrOk (L : LH) (n : Nat) (cs : List PV) : Prop := closedL cs = true ∨ ((∀ q ∈ cs, droOk L n q) ∧ closedL (cs.map (dro L n)) = true)
theorem clr_row {b off n : Nat} {cs : List PV} (hH : RepH X β w L) (hr : RepRow X β w b off cs) (hok : clrOk L n cs) : closedL (clr L n cs) = true ∧ RepRow X [] w b off (clr L n cs) := by
  have hanti : ∀ b, X b ∨ Live [] b → X b ∨ Live β b := fun b hb => by rcases hb with hb | hb; exact .inl hb; exact absurd hb live_nil
  unfold clr
  cases hc : closedL cs with
  | true => exact ⟨hc, RepRow.anti hanti b cs off hc hr⟩
  | false =>
    rcases hok with hok | ⟨hok, hc2⟩
    · rw [hc] at hok; cases hok
    · refine ⟨hc2, ?_⟩
      rw [RepRow.iff] at hr
      simp only [cond_false]
      rw [RepRow.iff]
      intro i q hq
      rw [List.getElem?_map, Option.map_eq_some_iff] at hq
      obtain ⟨q', hq', rfl⟩ := hq
      have hm := List.mem_of_getElem? hq'
      obtain ⟨v, h1, h2, h3⟩ := hr i q' hq'
      exact ⟨v, h1, h2, dro_rep hH (fun b hb => .inl hb) n q' v h3 (hok q' hm) (closedL_iff.1 hc2 _ (List.mem_map_of_mem hm))⟩
theorem clr_list {n : Nat} {cs : List PV} {vs : List Value} (hH : RepH X β w L) (hr : RepL X β w cs vs) (hok : clrOk L n cs) : closedL (clr L n cs) = true ∧ RepL X [] w (clr L n cs) vs := by
  have hanti : ∀ b, X b ∨ Live [] b → X b ∨ Live β b := fun b hb => by rcases hb with hb | hb; exact .inl hb; exact absurd hb live_nil
  unfold clr
  cases hc : closedL cs with
  | true => exact ⟨hc, RepL.anti hanti cs vs hc hr⟩
  | false =>
    rcases hok with hok | ⟨hok, hc2⟩
    · rw [hc] at hok; cases hok
    · refine ⟨hc2, ?_⟩
      rw [RepL.iff] at hr
      simp only [cond_false]
      rw [RepL.iff]
      refine ⟨by simp [hr.1], fun i q v hq hv => ?_⟩
      rw [List.getElem?_map, Option.map_eq_some_iff] at hq
      obtain ⟨q', hq', rfl⟩ := hq
      have hm := List.mem_of_getElem? hq'
      exact dro_rep hH (fun b hb => .inl hb) n q' v (hr.2 i q' v hq' hv) (hok q' hm) (closedL_iff.1 hc2 _ (List.mem_map_of_mem hm))
theorem get_set {id j : Nat} {x : Base} (h : (β.set id .dead)[j]? = some x) (hx : x ≠ .dead) : β[j]? = some x := by
  rw [List.getElem?_set] at h
  split at h
  · split at h
    · cases h; exact absurd rfl hx
    · cases h
  · exact h
theorem live_set {id b : Nat} (h : Live (β.set id .dead) b) : Live β b := by
  obtain ⟨j, base, h⟩ := h
  exact ⟨j, base, get_set h (by simp)⟩
mutual
theorem apartV {b id base : Nat} (hb : β[id]? = some (.blk b base)) (hinj : ∀ (i j c x y : Nat), β[i]? = some (.blk c x) → β[j]? = some (.blk c y) → i = j) : ∀ (p : PV) (v : Value), RepV X β w p v → RepV (fun x => X x ∨ x = b) (β.set id .dead) w p v
  | .any, _, _ => by simp [RepV]
  | .lit v0, v, h => by simpa [RepV] using h
  | .ro n cells, v, h => by
    simp only [RepV] at h ⊢
    obtain ⟨a, cap, hv, hn, hc⟩ := h
    refine ⟨a, cap, hv, hn, ?_⟩
    rcases hc with hc | ⟨c, off, ha, hx, hl, hr⟩
    · exact .inl hc
    · exact .inr ⟨c, off, ha, fun h => by rcases h with h | h; exact hx h; exact hl ⟨id, base, h ▸ hb⟩, fun h => hl (live_set h), apartR hb hinj c cells off hr⟩
  | .own i off n sz, v, h => by
    simp only [RepV] at h ⊢
    refine ⟨by simpa using h.1, fun c base' hc => h.2.1 c base' (get_set hc (by simp)), fun hc => h.2.2.1 (get_set hc (by simp)), h.2.2.2⟩
  | .ptr i off, v, h => by
    simp only [RepV] at h ⊢
    refine ⟨by simpa using h.1, fun c base' hc => h.2.1 c base' (get_set hc (by simp)), fun hc => h.2.2.1 (get_set hc (by simp)), h.2.2.2⟩
  | .rptr cells, v, h => by
    simp only [RepV] at h ⊢
    obtain ⟨c, off, hv, hc⟩ := h
    refine ⟨c, off, hv, ?_⟩
    rcases hc with hc | ⟨hx, hl, hr⟩
    · exact .inl hc
    · exact .inr ⟨fun h => by rcases h with h | h; exact hx h; exact hl ⟨id, base, h ▸ hb⟩, fun h => hl (live_set h), apartR hb hinj c cells off hr⟩
  | .agg cells, v, h => by
    simp only [RepV] at h ⊢
    obtain ⟨vs, hv, hr⟩ := h
    exact ⟨vs, hv, apartL hb hinj cells vs hr⟩
  | .tup cells, v, h => by
    simp only [RepV] at h ⊢
    obtain ⟨vs, hv, hr⟩ := h
    exact ⟨vs, hv, apartL hb hinj cells vs hr⟩
  | .fn f first captured, v, h => by
    simp only [RepV] at h ⊢
    obtain ⟨xs, ys, hv, hx, hy⟩ := h
    exact ⟨xs, ys, hv, apartL hb hinj first xs hx, apartL hb hinj captured ys hy⟩
  | .new _ _ _, v, h => by simp [RepV] at h
theorem apartR {b id base : Nat} (hb : β[id]? = some (.blk b base)) (hinj : ∀ (i j c x y : Nat), β[i]? = some (.blk c x) → β[j]? = some (.blk c y) → i = j) (c : Nat) : ∀ (ps : List PV) (off : Nat), RepRow X β w c off ps → RepRow (fun x => X x ∨ x = b) (β.set id .dead) w c off ps
  | [], _, _ => by simp [RepRow]
  | p :: ps, off, h => by
    simp only [RepRow] at h ⊢
    obtain ⟨⟨v, hv, ho, hr⟩, h2⟩ := h
    exact ⟨⟨v, hv, ho, apartV hb hinj p v hr⟩, apartR hb hinj c ps (off + 1) h2⟩
theorem apartL {b id base : Nat} (hb : β[id]? = some (.blk b base)) (hinj : ∀ (i j c x y : Nat), β[i]? = some (.blk c x) → β[j]? = some (.blk c y) → i = j) : ∀ (ps : List PV) (vs : List Value), RepL X β w ps vs → RepL (fun x => X x ∨ x = b) (β.set id .dead) w ps vs
  | [], vs, h => by simpa [RepL] using h
  | p :: ps, vs, h => by
    simp only [RepL] at h ⊢
    obtain ⟨v, r, hv, h1, h2⟩ := h
    exact ⟨v, r, hv, apartV hb hinj p v h1, apartL hb hinj ps r h2⟩
end
theorem kill_apart (hH : RepH X β w L) {id b base : Nat} (hb : β[id]? = some (.blk b base)) : RepH (fun x => X x ∨ x = b) (β.set id .dead) w (L.set id .dead) ∧
    (∀ p v, RepV X β w p v → RepV X (β.set id .dead) w p v) ∧ ¬ Live (β.set id .dead) b ∧ Live β b := by
  obtain ⟨hk, g⟩ := repH_kill hH id
  have hlb : Live β b := ⟨id, base, hb⟩
  have hnl : ¬ Live (β.set id .dead) b := by
    rintro ⟨j, bs, hj⟩
    rw [List.getElem?_set] at hj
    split at hj
    · first | (split at hj <;> cases hj; done) | (cases hj; done)
    · rename_i hne
      exact hne (hH.inj j id b bs base hj hb).symm
  refine ⟨?_, fun p v h => h.grow g, hnl, hlb⟩
  -- the rows of the others keep clear of 'b', since 'b' was live
  have rows : ∀ (p : PV) (v : Value), RepV X β w p v → RepV (fun x => X x ∨ x = b) (β.set id .dead) w p v := by
    intro p v h
    exact apartV hb hH.inj p v h
  refine ⟨hk.len, hk.inj, hk.lt, fun d hd => ?_, fun j cs hj => ?_⟩
  · rcases hd with hd | rfl
    · exact hk.out d hd
    · exact ⟨hH.lt _ hlb, hnl⟩
  · have hj2 : L[j]? = some (.cells cs) := by
      rw [List.getElem?_set] at hj
      split at hj
      · first | (split at hj <;> cases hj; done) | (cases hj; done)
      · exact hj
    rcases hk.ent j cs hj with h | ⟨b', base', c, el, e1, e2, e3, e4⟩
    · exact .inl h
    · refine .inr ⟨b', base', c, el, e1, e2, e3, ?_⟩
      rcases hH.ent j cs hj2 with ⟨f1, _⟩ | ⟨b5, base5, c5, el5, f1, f2, f3, f4⟩
      · have := g.keep j _ (by rw [hH.len]; exact (List.getElem?_eq_some_iff.1 hj2).1) e1 (by simp)
        rw [this] at f1; cases f1
      · have := g.keep j _ (by rw [hH.len]; exact (List.getElem?_eq_some_iff.1 hj2).1) e1 (by simp)
        rw [this] at f1; cases f1
        rw [RepRow.iff] at f4 ⊢
        intro i p hp
        obtain ⟨v, h1, h2, h3⟩ := f4 i p hp
        exact ⟨v, h1, h2, rows p v h3⟩
theorem freeze_sound {id off n sz : Nat} {t : Nat} {env : Env} {a : Act} (hA : RepA N B X β w env a) (hH : RepH X β w L) (hl : lookup env t = .own id off n sz)
    (hok : (slc L (.own id off n sz)).1) (hc : closedL (slc L (.own id off n sz)).2.2 = true) :
    RepA N B X (β.set id .dead) w ((t, .ro n (slc L (.own id off n sz)).2.2) :: env) a ∧ RepH X (β.set id .dead) w (L.set id .dead) ∧ Grow β (β.set id .dead) w w := by
  obtain ⟨hk, g⟩ := repH_kill hH id
  obtain ⟨cs, hL, hle⟩ : ∃ cs, L[id]? = some (.cells cs) ∧ off + n * sz ≤ cs.length := by
    have := hok
    unfold slc at this
    simp only at this
    split at this
    · rename_i cs h; exact ⟨cs, h, this⟩
    · exact this.elim
  have hsl : (slc L (.own id off n sz)).2.2 = (cs.drop off).take (n * sz) := by simp [slc, hL]
  rw [hsl] at hc ⊢
  have hv := hA.slot t
  rw [hl] at hv
  refine ⟨⟨hA.size, hA.defers.grow g, fun u => ?_, hA.glob.grow g⟩, hk, g⟩
  simp only [lookup]
  cases hb : (t == u) with
  | false => simp only [cond_false]; exact (hA.slot u).grow g
  | true =>
    have := eq_of_beq hb
    subst this
    simp only [cond_true]
    rcases own_slice hH hL hv with ⟨h1, h2, h3, h4, h5⟩ | ⟨b, base, c, el, cap, h1, h2, hn, h3, h4, h5, h6⟩
    · subst h5; subst h3; subst h4
      rw [h2]
      simp only [RepV]
      exact ⟨none, 0, rfl, Nat.le_refl _, .inl (by simp [clr, closedL])⟩
    · obtain ⟨hk2, hall, hnl, hlb⟩ := kill_apart hH h1
      have hrow := apartR h1 hH.inj b _ _ (row_sub h6 off (n * sz))
      rw [h2]
      simp only [RepV]
      refine ⟨_, cap, rfl, hn, .inr ⟨b, base + off, rfl, fun hx => (hH.out b hx).2 hlb, hnl, ?_⟩⟩
      exact RepRow.anti (fun x hx => by
        rcases hx with hx | hx
        · exact .inl (.inl hx)
        · exact .inr hx) b _ _ hc hrow
theorem freezep_sound {id : Nat} {t : Nat} {env : Env} {a : Act} {cs : List PV} (hA : RepA N B X β w env a) (hH : RepH X β w L) (hl : lookup env t = .ptr id 0) (hL : L[id]? = some (.cells cs)) (hc : closedL cs = true) :
    RepA N B X (β.set id .dead) w ((t, .rptr cs) :: env) a ∧ RepH X (β.set id .dead) w (L.set id .dead) ∧ Grow β (β.set id .dead) w w := by
  obtain ⟨hk, g⟩ := repH_kill hH id
  have hv := hA.slot t
  rw [hl] at hv
  refine ⟨⟨hA.size, hA.defers.grow g, fun u => ?_, hA.glob.grow g⟩, hk, g⟩
  simp only [lookup]
  cases hb : (t == u) with
  | false => simp only [cond_false]; exact (hA.slot u).grow g
  | true =>
    have := eq_of_beq hb
    subst this
    simp only [cond_true]
    simp only [RepV] at hv
    rcases hH.ent id cs hL with ⟨h1, _⟩ | ⟨b, base, c, el, h1, h2, h3, h4⟩
    · exact absurd h1 hv.2.2.1
    · rw [hv.2.1 b base h1]
      simp only [RepV]
      refine ⟨b, base + 0, rfl, .inr ⟨fun hx => (hH.out b hx).2 ⟨id, base, h1⟩, ?_, ?_⟩⟩
      · rintro ⟨j, y, hj⟩
        rw [List.getElem?_set] at hj
        split at hj
        · split at hj <;> cases hj
        · rename_i hne
          exact hne (hH.inj j id b y base hj h1).symm
      · rw [RepRow.iff] at h4 ⊢
        intro i p hp
        obtain ⟨v, hv2, ho, hr⟩ := h4 i p hp
        exact ⟨v, hv2, ho, hr.grow g⟩
theorem freeze_val {id off n sz : Nat} {v : Value} (hH : RepH X β w L) (hok : (slc L (.own id off n sz)).1) (hc : closedL (slc L (.own id off n sz)).2.2 = true) (hv : RepV X β w (.own id off n sz) v) :
    RepV X (β.set id .dead) w (.ro n (slc L (.own id off n sz)).2.2) v := by
  obtain ⟨hk, g⟩ := repH_kill hH id
  obtain ⟨cs, hL, hle⟩ : ∃ cs, L[id]? = some (.cells cs) ∧ off + n * sz ≤ cs.length := by
    have := hok
    unfold slc at this
    simp only at this
    split at this
    · rename_i cs h; exact ⟨cs, h, this⟩
    · exact this.elim
  have hsl : (slc L (.own id off n sz)).2.2 = (cs.drop off).take (n * sz) := by simp [slc, hL]
  rw [hsl] at hc ⊢
  rcases own_slice hH hL hv with ⟨h1, h2, h3, h4, h5⟩ | ⟨b, base, c, el, cap, h1, h2, hn, h3, h4, h5, h6⟩
  · subst h5; subst h3; subst h4
    rw [h2]
    simp only [RepV]
    exact ⟨none, 0, rfl, Nat.le_refl _, .inl (by simp)⟩
  · obtain ⟨hk2, hall, hnl, hlb⟩ := kill_apart hH h1
    have hrow := apartR h1 hH.inj b _ _ (row_sub h6 off (n * sz))
    rw [h2]
    simp only [RepV]
    refine ⟨_, cap, rfl, hn, .inr ⟨b, base + off, rfl, fun hx => (hH.out b hx).2 hlb, hnl, ?_⟩⟩
    exact RepRow.anti (fun x hx => by
      rcases hx with hx | hx
      · exact .inl (.inl hx)
      · exact .inr hx) b _ _ hc hrow
theorem repH_cell {id j : Nat} {cs : List PV} {p : PV} (hH : RepH X β w L) (hL : L[id]? = some (.cells cs)) (hj : j < cs.length) (hp : ∀ b base v, β[id]? = some (.blk b base) → w.cell? ⟨b, base + j, none⟩ = some v → RepV X β w p v) :
    RepH X β w (L.set id (.cells (cs.set j p))) := by
  refine ⟨by simp [hH.len], hH.inj, hH.lt, hH.out, fun i ds hi => ?_⟩
  rw [List.getElem?_set] at hi
  split at hi
  · rename_i e
    subst e
    split at hi
    · cases hi
      rcases hH.ent id cs hL with ⟨h1, h2⟩ | ⟨b, base, c, el, h1, h2, h3, h4⟩
      · subst h2; simp at hj
      · refine .inr ⟨b, base, c, el, h1, h2, by rw [List.length_set]; exact h3, ?_⟩
        rw [RepRow.iff] at h4 ⊢
        intro i q hq
        rw [List.getElem?_set] at hq
        split at hq
        · rename_i e
          subst e
          cases hq
          obtain ⟨v, e1, e2, e3⟩ := h4 j cs[j] (by simp [hj])
          exact ⟨v, e1, e2, hp b base v h1 e1⟩
        · exact h4 i q hq
    · cases hi
  · exact hH.ent i ds hi
theorem thaw_val {sz : Nat} (hH : RepH X β w L) : RepV X (β ++ [.nil]) w (.own L.length 0 0 sz) (.slice none 0 0) := by
  simp only [RepV]
  have hl : (β ++ [Base.nil])[L.length]? = some .nil := by rw [← hH.len]; simp
  refine ⟨by simp [hH.len], fun b base hb => (by rw [hl] at hb; cases hb), fun _ => (by simp), rfl⟩
theorem thaw_sound {t sz : Nat} {env : Env} {a : Act} (hA : RepA N B X β w env a) (hH : RepH X β w L) (hl : lookup env t = .lit (.slice none 0 0)) :
    RepA N B X (β ++ [.nil]) w ((t, .own L.length 0 0 sz) :: env) a ∧ RepH X (β ++ [.nil]) w (L ++ [.cells []]) ∧ Grow β (β ++ [.nil]) w w := by
  have g : Grow β (β ++ [.nil]) w w := grow_nil
  have hv := hA.slot t
  rw [hl] at hv
  simp only [RepV] at hv
  refine ⟨⟨hA.size, hA.defers.grow g, fun u => ?_, hA.glob.grow g⟩, repH_nil (sz := 0) hH, g⟩
  simp only [lookup]
  cases hb : (t == u) with
  | false => simp only [cond_false]; exact (hA.slot u).grow g
  | true =>
    have := eq_of_beq hb
    subst this
    simp only [cond_true]
    rw [hv]
    exact thaw_val hH
theorem thawc_sound {id j sz : Nat} {cs : List PV} {env : Env} {a : Act} (hA : RepA N B X β w env a) (hH : RepH X β w L) (hL : L[id]? = some (.cells cs)) (hj : cs[j]? = some (.lit (.slice none 0 0))) :
    RepA N B X (β ++ [.nil]) w env a ∧ RepH X (β ++ [.nil]) w ((L ++ [LE.cells []]).set id (.cells (cs.set j (.own L.length 0 0 sz)))) ∧ Grow β (β ++ [.nil]) w w := by
  have g : Grow β (β ++ [.nil]) w w := grow_nil
  have hlt := (List.getElem?_eq_some_iff.1 hL).1
  have hjl := (List.getElem?_eq_some_iff.1 hj).1
  refine ⟨hA.grow g, repH_cell (repH_nil (sz := 0) hH) (by rw [List.getElem?_append_left hlt]; exact hL) hjl (fun b base v hb hv => ?_), g⟩
  have hb' : β[id]? = some (.blk b base) := by
    rw [List.getElem?_append_left (by rw [hH.len]; exact hlt)] at hb; exact hb
  rcases hH.ent id cs hL with ⟨h1, _⟩ | ⟨b', base', c, el, h1, h2, h3, h4⟩
  · rw [h1] at hb'; cases hb'
  · rw [h1] at hb'; cases hb'
    rw [RepRow.iff] at h4
    obtain ⟨u, e1, e2, e3⟩ := h4 j _ hj
    rw [e1] at hv; cases hv
    simp only [RepV] at e3
    subst e3
    exact thaw_val hH
theorem freezec_sound {id j k off n sz : Nat} {cs : List PV} {env : Env} {a : Act} (hA : RepA N B X β w env a) (hH : RepH X β w L) (hne : k ≠ id) (hL : L[id]? = some (.cells cs)) (hj : cs[j]? = some (.own k off n sz))
    (hok : (slc L (.own k off n sz)).1) (hc : closedL (slc L (.own k off n sz)).2.2 = true) :
    RepA N B X (β.set k .dead) w env a ∧ RepH X (β.set k .dead) w ((L.set k .dead).set id (.cells (cs.set j (.ro n (slc L (.own k off n sz)).2.2)))) ∧ Grow β (β.set k .dead) w w := by
  obtain ⟨hk, g⟩ := repH_kill hH k
  have hlt := (List.getElem?_eq_some_iff.1 hL).1
  have hjl := (List.getElem?_eq_some_iff.1 hj).1
  refine ⟨hA.grow g, repH_cell hk (by rw [List.getElem?_set_ne hne]; exact hL) hjl (fun b base v hb hv => ?_), g⟩
  rw [List.getElem?_set_ne hne] at hb
  rcases hH.ent id cs hL with ⟨h1, _⟩ | ⟨b', base', c, el, h1, h2, h3, h4⟩
  · rw [h1] at hb; cases hb
  · rw [h1] at hb; cases hb
    rw [RepRow.iff] at h4
    obtain ⟨u, e1, e2, e3⟩ := h4 j _ hj
    rw [e1] at hv; cases hv
    exact freeze_val hH hok hc e3
theorem repH_move {k : Nat} {r : List PV} {x : Base} (hH : RepH X β w L) (hL : L[k]? = some (.cells r)) (hx : β[k]? = some x) : RepH X (β.set k .dead ++ [x]) w (L.set k .dead ++ [.cells r]) ∧ Grow β (β.set k .dead ++ [x]) w w := by
  have hkl := (List.getElem?_eq_some_iff.1 hL).1
  have hlen := hH.len
  have get : ∀ id y, (β.set k .dead ++ [x])[id]? = some y → y ≠ .dead → (id < β.length ∧ id ≠ k ∧ β[id]? = some y) ∨ (id = β.length ∧ β[k]? = some y) := by
    intro id y h hy
    rw [List.getElem?_append] at h
    split at h
    · rename_i hid
      rw [List.length_set] at hid
      rw [List.getElem?_set] at h
      split at h
      · split at h
        · cases h; exact absurd rfl hy
        · cases h
      · rename_i hne
        exact .inl ⟨hid, fun e => hne e.symm, h⟩
    · rename_i hid
      rw [List.length_set] at hid h
      rw [List.getElem?_singleton] at h
      split at h
      · rename_i h0
        cases h
        exact .inr ⟨by omega, hx⟩
      · cases h
  have live : ∀ b, Live (β.set k .dead ++ [x]) b → Live β b := fun b ⟨id, base, h⟩ => by
    rcases get id _ h (by simp) with ⟨_, _, h1⟩ | ⟨_, h1⟩
    · exact ⟨id, base, h1⟩
    · exact ⟨k, base, h1⟩
  have g : Grow β (β.set k .dead ++ [x]) w w := ⟨rfl, rfl, rfl, Nat.le_refl _, fun _ _ _ => rfl, fun k c el fr h => ⟨c, fr, h, rfl⟩, fun b h => .inl (live b h), by simp, fun id y hid h hy => by
    rcases get id y h hy with ⟨_, _, h1⟩ | ⟨h1, _⟩
    · exact h1
    · omega⟩
  have ent : ∀ (id' id : Nat) ds, L[id]? = some (.cells ds) → (β.set k .dead ++ [x])[id']? = β[id]? → ((β.set k .dead ++ [x])[id']? = some .nil ∧ ds = []) ∨ ∃ b base c el, (β.set k .dead ++ [x])[id']? = some (.blk b base) ∧ w.heap[b]? = some (.cells c el (0, 0)) ∧ base + ds.length ≤ c.size ∧ RepRow X (β.set k .dead ++ [x]) w b base ds := by
    intro id' id ds hid he
    rcases hH.ent id ds hid with ⟨h1, h2⟩ | ⟨b, base, c', el', h1, h2, h3, h4⟩
    · exact .inl ⟨he.trans h1, h2⟩
    · refine .inr ⟨b, base, c', el', he.trans h1, h2, h3, ?_⟩
      rw [RepRow.iff] at h4 ⊢
      intro i p hp
      obtain ⟨v, hv, ho, hr⟩ := h4 i p hp
      exact ⟨v, hv, ho, hr.grow g⟩
  refine ⟨⟨by simp [hlen], ?_, fun b h => hH.lt b (live b h), fun b hx => ⟨(hH.out b hx).1, fun h => (hH.out b hx).2 (live b h)⟩, ?_⟩, g⟩
  · intro i j b y z hi hj
    rcases get i _ hi (by simp) with ⟨h1, h2, h3⟩ | ⟨h1, h3⟩ <;> rcases get j _ hj (by simp) with ⟨g1, g2, g3⟩ | ⟨g1, g3⟩
    · exact hH.inj i j b y z h3 g3
    · exact absurd (hH.inj i k b y z h3 g3) h2
    · exact absurd (hH.inj k j b y z h3 g3).symm g2
    · omega
  · intro id ds hid
    rw [List.getElem?_append] at hid
    split at hid
    · rename_i hlt
      rw [List.length_set] at hlt
      rw [List.getElem?_set] at hid
      split at hid
      · cases hid
      · rename_i hne
        refine ent id id ds hid ?_
        rw [List.getElem?_append_left (by rw [List.length_set, hlen]; exact hlt), List.getElem?_set_ne hne]
    · rename_i hge
      rw [List.length_set] at hge hid
      rw [List.getElem?_singleton] at hid
      split at hid
      · cases hid
        refine ent id k r hL ?_
        rw [show id = (β.set k Base.dead).length by rw [List.length_set, hlen]; omega, List.getElem?_append_right (Nat.le_refl _), Nat.sub_self, hx]; rfl
      · cases hid
theorem movec_sound {id j k off n sz : Nat} {cs r : List PV} {env : Env} {a : Act} (hA : RepA N B X β w env a) (hH : RepH X β w L) (hne : k ≠ id) (hL : L[id]? = some (.cells cs)) (hj : cs[j]? = some (.own k off n sz)) (hk : L[k]? = some (.cells r)) :
    ∃ β', RepA N B X β' w env a ∧ RepH X β' w ((L.set k .dead ++ [LE.cells r]).set id (.cells (cs.set j (.own L.length off n sz)))) ∧ Grow β β' w w := by
  have hkl := (List.getElem?_eq_some_iff.1 hk).1
  have hkb : k < β.length := by rw [hH.len]; exact hkl
  obtain ⟨x, hx⟩ : ∃ x, β[k]? = some x := ⟨β[k], by simp [hkb]⟩
  obtain ⟨hm, g⟩ := repH_move hH hk hx
  have hlt := (List.getElem?_eq_some_iff.1 hL).1
  have hjl := (List.getElem?_eq_some_iff.1 hj).1
  refine ⟨_, hA.grow g, repH_cell hm (by rw [List.getElem?_append_left (by rw [List.length_set]; exact hlt), List.getElem?_set_ne hne]; exact hL) hjl (fun b base v hb hv => ?_), g⟩
  rw [List.getElem?_append_left (by rw [List.length_set, hH.len]; exact hlt), List.getElem?_set_ne hne] at hb
  have hnew : (β.set k Base.dead ++ [x])[L.length]? = some x := by
    rw [← hH.len, List.getElem?_append_right (by simp)]; simp
  rcases hH.ent id cs hL with ⟨h1, _⟩ | ⟨b', base', c, el, h1, h2, h3, h4⟩
  · rw [h1] at hb; cases hb
  · rw [h1] at hb; cases hb
    rw [RepRow.iff] at h4
    obtain ⟨u, e1, e2, e3⟩ := h4 j _ hj
    rw [e1] at hv; cases hv
    simp only [RepV] at e3 ⊢
    obtain ⟨f1, f2, f3, f4⟩ := e3
    refine ⟨by simp [hH.len], fun b base hb => ?_, fun hb => ?_, f4⟩
    · rw [hnew] at hb; cases hb; exact f2 b base hx
    · rw [hnew] at hb; cases hb; exact f3 hx
inductive LRun (P : Program) (Γ : Con) (all : List Oper) : List Oper → Env → LH → Env → LH → Prop
  | nil {env L} : LRun P Γ all [] env L env L
  | cons {o r env L v L1 env' L'} (h : stepV P Γ false all o env L v L1) (k : LRun P Γ all r (putIn env o.dst v) L1 env' L') : LRun P Γ all (o :: r) env L env' L'
  | freeze {ops env L t id off n sz env' L'} (hl : lookup env t = .own id off n sz) (hok : (slc L (.own id off n sz)).1) (hc : closedL (slc L (.own id off n sz)).2.2 = true)
      (k : LRun P Γ all ops ((t, .ro n (slc L (.own id off n sz)).2.2) :: env) (L.set id .dead) env' L') : LRun P Γ all ops env L env' L'
  | freezep {ops env L t id cs env' L'} (hl : lookup env t = .ptr id 0) (hL : L[id]? = some (.cells cs)) (hc : closedL cs = true)
      (k : LRun P Γ all ops ((t, .rptr cs) :: env) (L.set id .dead) env' L') : LRun P Γ all ops env L env' L'
  | thaw {ops env L t sz env' L'} (hl : lookup env t = .lit (.slice none 0 0)) (kk : LRun P Γ all ops ((t, .own L.length 0 0 sz) :: env) (L ++ [.cells []]) env' L') : LRun P Γ all ops env L env' L'
  | thawc {ops env L id j sz cs env' L'} (hL : L[id]? = some (.cells cs)) (hj : cs[j]? = some (.lit (.slice none 0 0)))
      (kk : LRun P Γ all ops env ((L ++ [.cells []]).set id (.cells (cs.set j (.own L.length 0 0 sz)))) env' L') : LRun P Γ all ops env L env' L'
  | freezec {ops env L id j k off n sz cs env' L'} (hne : k ≠ id) (hL : L[id]? = some (.cells cs)) (hj : cs[j]? = some (.own k off n sz)) (hok : (slc L (.own k off n sz)).1) (hc : closedL (slc L (.own k off n sz)).2.2 = true)
      (kk : LRun P Γ all ops env ((L.set k .dead).set id (.cells (cs.set j (.ro n (slc L (.own k off n sz)).2.2)))) env' L') : LRun P Γ all ops env L env' L'
  | movec {ops env L id j k off n sz cs r env' L'} (hne : k ≠ id) (hL : L[id]? = some (.cells cs)) (hj : cs[j]? = some (.own k off n sz)) (hk : L[k]? = some (.cells r))
      (kk : LRun P Γ all ops env ((L.set k .dead ++ [LE.cells r]).set id (.cells (cs.set j (.own L.length off n sz)))) env' L') : LRun P Γ all ops env L env' L'
theorem lrun_sound' (hΓ : GammaOk P Γ) {all : List Oper} {Q : Exit → Act → World → Prop} {rest ops : List Oper} {env env' : Env} {L L' : LH} (h : LRun P Γ all ops env L env' L') : ∀ {β : List Base} {w : World} {a : Act},
    RepA N B X β w env a → RepH X β w L → (∀ o ∈ ops, ∀ d, o.dst = some d → d < N) →
    (∀ a' w' β', RepA N B X β' w' env' a' → RepH X β' w' L' → Grow β β' w w' → wpListIn (FF rr) 0 P all.toArray Q rest a' w') → wpListIn (FF rr) 0 P all.toArray Q (ops ++ rest) a w := by
  induction h with
  | nil => intro β w a hA hH _ hQ; exact hQ a w β hA hH (Grow.refl β w)
  | @cons o r env L v L1 env' L' hs k ih =>
    intro β w a hA hH hd hQ
    have := step_sound (rr := rr) (Q := Q) (K := wpListIn (FF rr) 0 P all.toArray Q (r ++ rest)) hΓ hs hA hH (hd o (by simp)) (fun a1 w1 β1 e1 e2 e3 _ =>
      ih e1 e2 (fun o ho => hd o (by simp [ho])) (fun a' w' β' f1 f2 f3 => hQ a' w' β' f1 f2 (e3.trans f3)))
    rw [List.cons_append]
    unfold wpListIn
    split
    · rename_i hw; rw [if_pos hw] at this; exact this
    · rename_i hw; rw [if_neg hw] at this; exact ⟨fun f _ => FF_fn rr f, this⟩
  | freeze hl hok hc k ih =>
    intro β w a hA hH hd hQ
    obtain ⟨h1, h2, h3⟩ := freeze_sound hA hH hl hok hc
    exact ih h1 h2 hd (fun a' w' β' f1 f2 f3 => hQ a' w' β' f1 f2 (h3.trans f3))
  | freezep hl hL hc k ih =>
    intro β w a hA hH hd hQ
    obtain ⟨h1, h2, h3⟩ := freezep_sound hA hH hl hL hc
    exact ih h1 h2 hd (fun a' w' β' f1 f2 f3 => hQ a' w' β' f1 f2 (h3.trans f3))
  | @thaw ops env L t sz env' L' hl k ih =>
    intro β w a hA hH hd hQ
    obtain ⟨h1, h2, h3⟩ := thaw_sound (sz := sz) hA hH hl
    exact ih h1 h2 hd (fun a' w' β' f1 f2 f3 => hQ a' w' β' f1 f2 (h3.trans f3))
  | @thawc ops env L id j sz cs env' L' hL hj k ih =>
    intro β w a hA hH hd hQ
    obtain ⟨h1, h2, h3⟩ := thawc_sound (sz := sz) hA hH hL hj
    exact ih h1 h2 hd (fun a' w' β' f1 f2 f3 => hQ a' w' β' f1 f2 (h3.trans f3))
  | freezec hne hL hj hok hc k ih =>
    intro β w a hA hH hd hQ
    obtain ⟨h1, h2, h3⟩ := freezec_sound hA hH hne hL hj hok hc
    exact ih h1 h2 hd (fun a' w' β' f1 f2 f3 => hQ a' w' β' f1 f2 (h3.trans f3))
  | movec hne hL hj hk k ih =>
    intro β w a hA hH hd hQ
    obtain ⟨β1, h1, h2, h3⟩ := movec_sound hA hH hne hL hj hk
    exact ih h1 h2 hd (fun a' w' β' f1 f2 f3 => hQ a' w' β' f1 f2 (h3.trans f3))
theorem lrun_sound (hΓ : GammaOk P Γ) {all : List Oper} {Q : Exit → Act → World → Prop} {ops : List Oper} {env env' : Env} {L L' : LH} (h : LRun P Γ all ops env L env' L') {β : List Base} {w : World} {a : Act}
    (hA : RepA N B X β w env a) (hH : RepH X β w L) (hd : ∀ o ∈ ops, ∀ d, o.dst = some d → d < N)
    (hQ : ∀ a' w' β', RepA N B X β' w' env' a' → RepH X β' w' L' → Grow β β' w w' → Q .normal a' w') : wpListIn (FF rr) 0 P all.toArray Q ops a w := by
  have := lrun_sound' (rr := rr) (rest := []) (Q := Q) hΓ h hA hH hd (fun a' w' β' h1 h2 h3 => hQ a' w' β' h1 h2 h3)
  rwa [List.append_nil] at this
end Go.Ab
