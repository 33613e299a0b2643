import Derived.Test.YtmnkapmcclhiiaaMA
import Derived.LoopN
import Derived.Scope
namespace Go.Ab
open Go Go.RowKit
set_option linter.unusedVariables false
set_option linter.unusedSimpArgs false
variable {P : Program} {Γ : Con} {X : Nat → Prop} {β : List Base} {w : World} {L : LH} {N : Nat}
theorem callF_draw {g : FuncId} {args : List PV} (h : (callF Γ true g args L).pre) : (callF Γ true g args L).L = L := by
  unfold callF at h ⊢
  cases hE : Γ.tab g with
  | none => simp only [hE] at h; exact h.elim
  | ext S => rfl
  | st T => simp only [hE, cond_true] at h; exact h.elim
  | pure S => simp only [pureF, adopt]; repeat' split <;> simp [fresh]
theorem opF_draw {ρ : Operand → PV} {op : Op} (h : (opF P Γ true ρ L op).pre) : (opF P Γ true ρ L op).L = L := by
  have bad : ∀ {p : Prop}, OR.bad.pre → p := fun h => h.elim
  cases op <;> simp only [opF] at h ⊢ <;> try (first | rfl | exact bad h)
  case alloc t => unfold allocF at h ⊢; split <;> simp_all [OR.bad]
  case buildSlice t len parts => unfold buildSliceF at h ⊢; repeat' split <;> simp_all [OR.bad, fresh]
  case build t parts =>
    unfold buildF at h ⊢
    split
    · repeat' split <;> simp_all [OR.bad]
    · rename_i fs _ _ z hT
      simp only [hT] at h
      cases hq : (placesF P fs.toList).all Option.isSome with
      | false => simp only [hq, cond_false] at h; exact bad h
      | true =>
        simp only [hq, cond_true] at h ⊢
        repeat' split <;> simp_all [OR.bad]
    · simp_all [OR.bad]
  case fieldAddr t x f => unfold fieldAddrF at h ⊢; repeat' split <;> simp_all [OR.bad]
  case load t x => unfold loadF at h ⊢; repeat' split <;> simp_all [OR.bad]
  case store t a x => unfold storeF at h ⊢; repeat' split <;> simp_all [OR.bad]
  case nilCheck x => repeat' split <;> simp_all [OR.bad]
  case binOp op t x y yt => unfold binF at h ⊢; repeat' split <;> simp_all [OR.bad]
  case unOp op t x => unfold unF at h ⊢; repeat' split <;> simp_all [OR.bad]
  case convert s d x => simp only [convG_draw] at h ⊢; unfold convF at h ⊢; repeat' split <;> simp_all [OR.bad]
  case makeSlice t l c => unfold makeF at h ⊢; repeat' split <;> simp_all [OR.bad, fresh]
  case slice t x lo hi mx => unfold sliceF at h ⊢; repeat' split <;> simp_all [OR.bad]
  case indexAddr t x i => unfold indexAddrF at h ⊢; repeat' split <;> simp_all [OR.bad]
  case index t x i => unfold indexF at h ⊢; repeat' split <;> simp_all [OR.bad]
  case sliceToArrayPointer t x => unfold arrF at h ⊢; repeat' split <;> simp_all [OR.bad]
  case field t x f => unfold fieldF at h ⊢; repeat' split <;> simp_all [OR.bad]
  case extract x i => unfold extractF at h ⊢; repeat' split <;> simp_all [OR.bad]
  case call c =>
    split
    · rename_i x t _ _ _; simp_all only; unfold lenF at h ⊢; repeat' split <;> simp_all [OR.bad]
    · simp_all only; unfold capF at h ⊢; repeat' split <;> simp_all [OR.bad]
    · simp_all only; unfold minF at h ⊢; repeat' split <;> simp_all [OR.bad]
    · simp_all only; unfold maxF at h ⊢; repeat' split <;> simp_all [OR.bad]
    · simp_all only; unfold appF at h ⊢; repeat' split <;> simp_all [OR.bad, fresh]
    · simp_all only; unfold copyF at h ⊢; repeat' split <;> simp_all [OR.bad]
    · simp_all only; exact callF_draw h
    · simp_all [OR.bad]
theorem stepV_draw {all : List Oper} {o : Oper} {env : Env} {v : PV} {L' : LH} (h : stepV P Γ true all o env L v L') : L' = L := by
  rcases h with ⟨_, ⟨_, _, _, _, _, _, _, h⟩ | ⟨h1, _, h2⟩⟩ | ⟨_, _, h⟩
  · exact h
  · rw [h2]; exact opF_draw h1
  · exact h
def puts (env : Env) (ps : List (Option Nat × PV)) : Env := ps.foldl (fun e x => putIn e x.1 x.2) env
theorem lookup_put_ne {env : Env} {d : Option Nat} {p : PV} {t : Nat} (h : d ≠ some t) : lookup (putIn env d p) t = lookup env t := by
  cases d with
  | none => rfl
  | some d =>
    have hne : d ≠ t := fun e => h (by rw [e])
    have hb : (d == t) = false := by
      cases hh : (d == t)
      · rfl
      · exact absurd (eq_of_beq hh) hne
    simp [putIn, lookup, hb]
theorem lookup_put_eq {env : Env} {p : PV} {t : Nat} : lookup (putIn env (some t) p) t = p := by
  simp [putIn, lookup, beq_self_eq_true]
theorem puts_none : ∀ {ps : List (Option Nat × PV)} {env : Env} {t : Nat}, (∀ x ∈ ps, x.1 ≠ some t) → lookup (puts env ps) t = lookup env t
  | [], env, t, _ => rfl
  | x :: ps, env, t, h => by
    show lookup (puts (putIn env x.1 x.2) ps) t = _
    rw [puts_none (fun y hy => h y (by simp [hy])), lookup_put_ne (h x (by simp))]
theorem puts_some : ∀ {ps : List (Option Nat × PV)} {env : Env} {t : Nat} {v : PV}, (∃ x ∈ ps, x.1 = some t) → (∀ x ∈ ps, x.1 = some t → x.2 = v) → lookup (puts env ps) t = v
  | [], env, t, v, h, _ => by simp at h
  | x :: ps, env, t, v, h, hu => by
    show lookup (puts (putIn env x.1 x.2) ps) t = _
    by_cases hin : ∃ y ∈ ps, y.1 = some t
    · exact puts_some hin (fun y hy => hu y (by simp [hy]))
    · rw [puts_none (fun y hy e => hin ⟨y, hy, e⟩)]
      obtain ⟨y, hy, he⟩ := h
      rcases List.mem_cons.1 hy with rfl | hy
      · have := hu y (by simp) he
        rw [he, lookup_put_eq, this]
      · exact absurd ⟨y, hy, he⟩ hin
theorem trun_vals {all : List Oper} : ∀ {ops : List Oper} {env env' : Env} {L' : LH}, TRun P Γ true all ops env L env' L' →
    L' = L ∧ ∃ vs : List PV, vs.length = ops.length ∧ env' = puts env ((ops.map (·.dst)).zip vs) ∧ ∀ (i : Nat) o v, ops[i]? = some o → vs[i]? = some v → stepV P Γ true all o (puts env (((ops.map (·.dst)).zip vs).take i)) L v L
  | [], env, env', L', h => by
    obtain ⟨rfl, rfl⟩ := h
    exact ⟨rfl, [], rfl, rfl, fun i o v ho => by simp at ho⟩
  | o :: ops, env, env', L', h => by
    obtain ⟨v, L1, hs, hr⟩ := h
    have hL := stepV_draw hs
    rw [hL] at hs hr
    obtain ⟨h1, vs, h2, h3, h4⟩ := trun_vals hr
    refine ⟨h1, v :: vs, by simp [h2], by rw [h3]; rfl, fun i q u hq hu => ?_⟩
    cases i with
    | zero => simp at hq hu; subst hq hu; exact hs
    | succ i => simp at hq hu; exact h4 i q u hq hu
theorem countP_lt {p q : Nat → Bool} : ∀ {l : List Nat}, (∀ x ∈ l, q x = true → p x = true) → (∃ x ∈ l, p x = true ∧ q x = false) → l.countP q < l.countP p
  | [], _, h => by simp at h
  | x :: l, h, he => by
    have hle : l.countP q ≤ l.countP p := List.countP_mono_left (fun y hy => h y (by simp [hy]))
    simp only [List.countP_cons]
    obtain ⟨y, hy, h1, h2⟩ := he
    rcases List.mem_cons.1 hy with rfl | hy
    · rw [h1, h2]; simp; omega
    · have := countP_lt (l := l) (fun z hz => h z (by simp [hz])) ⟨y, hy, h1, h2⟩
      have hx := h x (by simp)
      cases hq : q x
      · cases hp : p x <;> simp <;> omega
      · rw [hx hq]; simp; omega
section draw
variable {all : List Oper} {vs : List PV} {env0 : Env} {Q : Exit → Act → World → Prop}
def psOf (all : List Oper) (vs : List PV) (S : List Nat) : List (Option Nat × PV) := S.filterMap fun i => ((all.map (·.dst)).zip vs)[i]?
theorem mem_psOf {S : List Nat} {x : Option Nat × PV} : x ∈ psOf all vs S ↔ ∃ i ∈ S, ((all.map (·.dst)).zip vs)[i]? = some x := by
  simp [psOf, List.mem_filterMap]
theorem zip_get (hl : vs.length = all.length) {i : Nat} {x : Option Nat × PV} : ((all.map (·.dst)).zip vs)[i]? = some x ↔ ∃ o, all[i]? = some o ∧ x.1 = o.dst ∧ vs[i]? = some x.2 := by
  rw [List.getElem?_zip_eq_some]
  constructor
  · rintro ⟨h1, h2⟩
    rw [List.getElem?_map, Option.map_eq_some_iff] at h1
    obtain ⟨o, h3, h4⟩ := h1
    exact ⟨o, h3, h4.symm, h2⟩
  · rintro ⟨o, h1, h2, h3⟩
    exact ⟨by rw [List.getElem?_map, h1, h2]; rfl, h3⟩
theorem draw_agree (hok : drawOk all = true) (hl : vs.length = all.length) {S : List Nat} (hcl : ∀ j ∈ S, ∀ q, all[j]? = some q → ∀ e ∈ q.after.toList, Region.binds .any e = true → e.on ∈ S)
    {i : Nat} {o : Oper} (hi : all[i]? = some o) (hiS : i ∉ S) (hdep : ∀ e ∈ o.after.toList, Region.binds .any e = true → e.on ∈ S) {t : Nat} (ht : t ∈ reads all o) :
    lookup (puts env0 (((all.map (·.dst)).zip vs).take i)) t = lookup (puts env0 (psOf all vs S)) t := by
  obtain ⟨_, h2, h3⟩ := drawOk_spec hok
  by_cases hw : ∃ (j : Nat) (q : Oper), all[j]? = some q ∧ q.dst = some t
  · obtain ⟨j, q, hj, hq⟩ := hw
    have hjl : j < vs.length := by rw [hl]; exact (List.getElem?_eq_some_iff.1 hj).1
    have huniq : ∀ (k : Nat) x, ((all.map (·.dst)).zip vs)[k]? = some x → x.1 = some t → k = j ∧ x.2 = vs[j] := by
      intro k x hx ht
      obtain ⟨r, e1, e2, e3⟩ := (zip_get hl).1 hx
      have : k = j := h3 k r j q t e1 hj hq (by rw [← e2]; exact ht)
      subst this
      rw [List.getElem?_eq_getElem hjl] at e3
      exact ⟨rfl, (Option.some.inj e3).symm⟩
    rcases h2 i o j q t hi hj hq ht with ⟨hlt, hb⟩ | ⟨hlt, hb⟩
    · have hjS : j ∈ S := by
        unfold bound at hb
        rw [hi] at hb
        simp only [List.any_eq_true, Bool.and_eq_true, beq_iff_eq] at hb
        obtain ⟨e, he, hbe, hon⟩ := hb
        rw [← hon]; exact hdep e he hbe
      have hz : ((all.map (·.dst)).zip vs)[j]? = some (some t, vs[j]) := (zip_get hl).2 ⟨q, hj, hq.symm, by simp [hjl]⟩
      rw [puts_some (v := vs[j]) ⟨_, List.mem_take_iff_getElem.2 (by
          have hz' := List.getElem?_eq_some_iff.1 hz
          obtain ⟨hz1, hz2⟩ := hz'
          exact ⟨j, by omega, hz2⟩), rfl⟩ (fun x hx he => by
          obtain ⟨k, hk⟩ := List.getElem?_of_mem (List.mem_of_mem_take hx)
          exact (huniq k x hk he).2)]
      rw [puts_some (v := vs[j]) ⟨_, mem_psOf.2 ⟨j, hjS, hz⟩, rfl⟩ (fun x hx he => by
          obtain ⟨k, _, hk⟩ := mem_psOf.1 hx
          exact (huniq k x hk he).2)]
    · have hjS : j ∉ S := by
        intro hjS
        unfold bound at hb
        rw [hj] at hb
        simp only [List.any_eq_true, Bool.and_eq_true, beq_iff_eq] at hb
        obtain ⟨e, he, hbe, hon⟩ := hb
        exact hiS (hon ▸ hcl j hjS q hj e he hbe)
      rw [puts_none (fun x hx he => by
          obtain ⟨k, hk⟩ := List.getElem?_of_mem hx
          rw [List.getElem?_take] at hk
          split at hk
          · have := (huniq k x hk he).1
            omega
          · cases hk)]
      rw [puts_none (fun x hx he => by
          obtain ⟨k, hkS, hk⟩ := mem_psOf.1 hx
          exact hjS ((huniq k x hk he).1 ▸ hkS))]
  · rw [puts_none (fun x hx he => by
      obtain ⟨k, hk⟩ := List.getElem?_of_mem (List.mem_of_mem_take hx)
      obtain ⟨r, e1, e2, e3⟩ := (zip_get hl).1 hk
      exact hw ⟨k, r, e1, by rw [← e2]; exact he⟩)]
    rw [puts_none (fun x hx he => by
      obtain ⟨k, _, hk⟩ := mem_psOf.1 hx
      obtain ⟨r, e1, e2, e3⟩ := (zip_get hl).1 hk
      exact hw ⟨k, r, e1, by rw [← e2]; exact he⟩)]
theorem draw_end (hok : drawOk all = true) (hl : vs.length = all.length) {S : List Nat} (hall : ∀ i, i < all.length → i ∈ S) (t : Nat) :
    lookup (puts env0 ((all.map (·.dst)).zip vs)) t = lookup (puts env0 (psOf all vs S)) t := by
  obtain ⟨_, _, h3⟩ := drawOk_spec hok
  by_cases hw : ∃ (j : Nat) (q : Oper), all[j]? = some q ∧ q.dst = some t
  · obtain ⟨j, q, hj, hq⟩ := hw
    have hjl : j < vs.length := by rw [hl]; exact (List.getElem?_eq_some_iff.1 hj).1
    have huniq : ∀ (k : Nat) x, ((all.map (·.dst)).zip vs)[k]? = some x → x.1 = some t → k = j ∧ x.2 = vs[j] := by
      intro k x hx ht
      obtain ⟨r, e1, e2, e3⟩ := (zip_get hl).1 hx
      have : k = j := h3 k r j q t e1 hj hq (by rw [← e2]; exact ht)
      subst this
      rw [List.getElem?_eq_getElem hjl] at e3
      exact ⟨rfl, (Option.some.inj e3).symm⟩
    have hz : ((all.map (·.dst)).zip vs)[j]? = some (some t, vs[j]) := (zip_get hl).2 ⟨q, hj, hq.symm, by simp [hjl]⟩
    rw [puts_some (v := vs[j]) ⟨_, List.mem_of_getElem? hz, rfl⟩ (fun x hx he => by
      obtain ⟨k, hk⟩ := List.getElem?_of_mem hx
      exact (huniq k x hk he).2)]
    rw [puts_some (v := vs[j]) ⟨_, mem_psOf.2 ⟨j, hall j (by omega), hz⟩, rfl⟩ (fun x hx he => by
      obtain ⟨k, _, hk⟩ := mem_psOf.1 hx
      exact (huniq k x hk he).2)]
  · rw [puts_none (fun x hx he => by
      obtain ⟨k, hk⟩ := List.getElem?_of_mem hx
      obtain ⟨r, e1, e2, e3⟩ := (zip_get hl).1 hk
      exact hw ⟨k, r, e1, by rw [← e2]; exact he⟩)]
    rw [puts_none (fun x hx he => by
      obtain ⟨k, _, hk⟩ := mem_psOf.1 hx
      obtain ⟨r, e1, e2, e3⟩ := (zip_get hl).1 hk
      exact hw ⟨k, r, e1, by rw [← e2]; exact he⟩)]
theorem mem_ready' {S : List Nat} {listed : Array Bool} (hsz : listed.size = all.length) (hS : ∀ i, i < all.length → listed[i]? = some (decide (i ∈ S))) (hSl : ∀ i ∈ S, i < all.length) {i : Nat} :
    i ∈ Region.ready .any all.toArray listed ↔ ∃ o, all[i]? = some o ∧ i ∉ S ∧ ∀ e ∈ o.after.toList, Region.binds .any e = true → e.on ∈ S := by
  have hg : ∀ (k : Nat) (d : Bool), listed.getD k d = if k < all.length then decide (k ∈ S) else d := by
    intro k d
    simp only [Array.getD_eq_getD_getElem?]
    split
    · rename_i h; rw [hS k h]; rfl
    · rename_i h
      rw [Array.getElem?_eq_none (by omega)]; rfl
  simp only [Region.ready, List.mem_filter, List.mem_range, List.size_toArray, Bool.and_eq_true, Bool.not_eq_true', List.getElem?_toArray]
  constructor
  · rintro ⟨hlt, h1, h2⟩
    rw [hg, if_pos hlt] at h1
    have hget := List.getElem?_eq_getElem hlt
    refine ⟨all[i], hget, by simpa using h1, fun e he hb => ?_⟩
    rw [hget] at h2
    simp only [Option.map_some, Option.getD_some] at h2
    have := (Array.all_eq_true_iff_forall_mem.1 h2) e (by simpa using he)
    rw [hb] at this
    simp only [Bool.not_true, Bool.false_or] at this
    rw [hg] at this
    split at this
    · simpa using this
    · cases this
  · rintro ⟨o, ho, h1, h2⟩
    have hlt := (List.getElem?_eq_some_iff.1 ho).1
    refine ⟨hlt, by rw [hg, if_pos hlt]; simpa using h1, ?_⟩
    rw [ho]
    simp only [Option.map_some, Option.getD_some]
    rw [Array.all_eq_true_iff_forall_mem]
    intro e he
    cases hb : Region.binds .any e
    · rfl
    · have := h2 e (by simpa using he) hb
      simp only [Bool.not_true, Bool.false_or]
      rw [hg, if_pos (hSl _ this)]
      simpa using this
theorem ready_nil (hok : drawOk all = true) {S : List Nat} {listed : Array Bool} (hsz : listed.size = all.length) (hS : ∀ i, i < all.length → listed[i]? = some (decide (i ∈ S))) (hSl : ∀ i ∈ S, i < all.length)
    (hr : Region.ready .any all.toArray listed = []) : ∀ i, i < all.length → i ∈ S := by
  intro i
  induction i using Nat.strongRecOn with
  | _ i ih =>
    intro hi
    refine Decidable.byContradiction fun hn => ?_
    have : i ∈ Region.ready .any all.toArray listed := (mem_ready' hsz hS hSl).2 ⟨all[i], by simp [hi], hn, fun e he hb => by
      have := (drawOk_spec hok).1 i all[i] (by simp [hi]) e he hb
      exact ih e.on this (by omega)⟩
    rw [hr] at this
    simp at this
theorem draw_sound (hΓ : GammaOk P Γ) (hok : drawOk all = true) (hl : vs.length = all.length) (hd : ∀ o ∈ all, ∀ d, o.dst = some d → d < N)
    (hv : ∀ (i : Nat) o v, all[i]? = some o → vs[i]? = some v → stepV P Γ true all o (puts env0 (((all.map (·.dst)).zip vs).take i)) L v L)
    (w0 : World) (hQ : ∀ a' w', RepA N X β w' (puts env0 ((all.map (·.dst)).zip vs)) a' → RepH X β w' L → Grow β β w0 w' → Q .normal a' w') :
    ∀ (fuel : Nat) (S : List Nat) (listed : Array Bool) (a : Act) (w : World), (List.range all.length).countP (fun i => decide (i ∉ S)) ≤ fuel → listed.size = all.length → (∀ i, i < all.length → listed[i]? = some (decide (i ∈ S))) → (∀ i ∈ S, i < all.length) →
      (∀ j ∈ S, ∀ q, all[j]? = some q → ∀ e ∈ q.after.toList, Region.binds .any e = true → e.on ∈ S) →
      RepA N X β w (puts env0 (psOf all vs S)) a → RepH X β w L → Grow β β w0 w → wpAny P .any all.toArray Q fuel listed a w := by
  have fin : ∀ (S : List Nat) (a : Act) (w : World), (∀ i, i < all.length → i ∈ S) → RepA N X β w (puts env0 (psOf all vs S)) a → RepH X β w L → Grow β β w0 w → Q .normal a w := by
    intro S a w hall hA hH hg
    exact hQ a w ⟨hA.size, hA.defers, fun t => by rw [draw_end hok hl hall t]; exact hA.slot t, hA.glob⟩ hH hg
  intro fuel
  induction fuel with
  | zero =>
    intro S listed a w hc hsz hS hSl hcl hA hH hg
    have hall : ∀ i, i < all.length → i ∈ S := by
      intro i hi
      have h0 : (List.range all.length).countP (fun i => decide (i ∉ S)) = 0 := Nat.le_zero.1 hc
      rw [List.countP_eq_zero] at h0
      have := h0 i (by simp [hi])
      simpa using this
    refine ⟨?_, fin S a w hall hA hH hg⟩
    rw [List.eq_nil_iff_forall_not_mem]
    intro i hi
    obtain ⟨o, ho, hn, _⟩ := (mem_ready' hsz hS hSl).1 hi
    exact hn (hall i (List.getElem?_eq_some_iff.1 ho).1)
  | succ fuel ih =>
    intro S listed a w hc hsz hS hSl hcl hA hH hg
    refine ⟨fun hr => fin S a w (ready_nil hok hsz hS hSl hr) hA hH hg, fun i hi => ?_⟩
    obtain ⟨o, ho, hn, hdep⟩ := (mem_ready' hsz hS hSl).1 hi
    have hil := (List.getElem?_eq_some_iff.1 ho).1
    have hiv : i < vs.length := by omega
    have hstep := hv i o vs[i] ho (by simp [hiv])
    have hstep' := stepV_congr (fun t ht => draw_agree (env0 := env0) hok hl hcl ho hn hdep ht) hstep
    have hps : puts env0 (psOf all vs (S ++ [i])) = putIn (puts env0 (psOf all vs S)) o.dst vs[i] := by
      have hz : ((all.map (·.dst)).zip vs)[i]? = some (o.dst, vs[i]) := (zip_get hl).2 ⟨o, ho, rfl, by simp [hiv]⟩
      simp [puts, psOf, List.filterMap_append, hz]
    have := step_sound (Q := Q) (K := wpAny P .any all.toArray Q fuel (listed.setIfInBounds i true)) hΓ hstep' hA hH (hd o (List.mem_of_getElem? ho)) (fun a1 w1 β1 e1 e2 e3 e4 => by
      obtain ⟨rfl, _⟩ := e4 rfl
      refine ih (S ++ [i]) _ a1 w1 ?_ (by simp [hsz]) (fun k hk => ?_) (fun k hk => ?_) (fun j hj q hq e he hb => ?_) (by rw [hps]; exact e1) e2 (hg.trans e3)
      · have := countP_lt (p := fun k => decide (k ∉ S)) (q := fun k => decide (k ∉ S ++ [i])) (l := List.range all.length) (fun x _ hx => by simp at hx ⊢; exact hx.1) ⟨i, by simp [hil], by simpa using hn, by simp⟩
        omega
      · by_cases hki : k = i
        · subst hki
          simp [hsz, hk]
        · rw [Array.getElem?_setIfInBounds_ne (Ne.symm hki), hS k hk]
          simp [hki]
      · rcases List.mem_append.1 hk with h | h
        · exact hSl k h
        · simp at h; omega
      · rcases List.mem_append.1 hj with h | h
        · exact List.mem_append_left _ (hcl j h q hq e he hb)
        · simp at h; subst h
          rw [ho] at hq; cases hq
          exact List.mem_append_left _ (hdep e he hb))
    unfold wpOp
    have hget : all.toArray[i]? = some o := by simpa using ho
    rw [hget]
    simp only
    split
    · rename_i hw; rw [if_pos hw] at this; exact .inl this
    · rename_i hw; rw [if_neg hw] at this; exact this
theorem grow_drew_id : Grow β β w { w with drawn := w.drawn + 1 } := grow_drew
theorem region_draw (hΓ : GammaOk P Γ) (hm : P.follows .mixedOrders = true) {id : Nat} {env env' : Env} {L' : LH} {a : Act} (hok : drawOk all = true) (hd : ∀ o ∈ all, ∀ d, o.dst = some d → d < N)
    (h : TRun P Γ true all all env L env' L') (hA : RepA N X β w env a) (hH : RepH X β w L)
    (hQ : ∀ a' w', RepA N X β w' env' a' → RepH X β w' L' → Grow β β w w' → Q .normal a' w') : (Code.region id all.toArray true).wp P Q a w := by
  obtain ⟨rfl, vs, h2, rfl, h4⟩ := trun_vals h
  refine wp_region_any hm ?_
  have hH' : RepH X β { w with drawn := w.drawn + 1 } L' := hH.same grow_drew_id (fun _ _ => rfl)
  have := draw_sound (Q := Q) (N := N) (X := X) (β := β) hΓ hok h2 hd h4 w hQ all.length [] (Array.replicate all.length false) a { w with drawn := w.drawn + 1 }
    (Nat.le_trans List.countP_le_length (by simp)) (by simp) (fun i hi => by simp [hi]) (by simp) (by simp) (hA.grow grow_drew_id) hH' grow_drew_id
  simpa using this
end draw
def clr (L : LH) (n : Nat) (cs : List PV) : List PV := bif closedL cs then cs else cs.map (dro L n)
def clrOk (L : LH) (n : Nat) (cs : List PV) : Prop := closedL cs = true ∨ ((∀ q ∈ cs, droOk L n q) ∧ closedL (cs.map (dro L n)) = true)
theorem clr_row {b off n : Nat} {cs : List PV} (hH : RepH X β w L) (hr : RepRow X β w b off cs) (hok : clrOk L n cs) : closedL (clr L n cs) = true ∧ RepRow X [] w b off (clr L n cs) := by
  have hanti : ∀ b, X b ∨ Live [] b → X b ∨ Live β b := fun b hb => by rcases hb with hb | hb; exact .inl hb; exact absurd hb live_nil
  unfold clr
  cases hc : closedL cs with
  | true => exact ⟨hc, RepRow.anti hanti b cs off hc hr⟩
  | false =>
    rcases hok with hok | ⟨hok, hc2⟩
    · rw [hc] at hok; cases hok
    · refine ⟨hc2, ?_⟩
      rw [RepRow.iff] at hr
      simp only [cond_false]
      rw [RepRow.iff]
      intro i q hq
      rw [List.getElem?_map, Option.map_eq_some_iff] at hq
      obtain ⟨q', hq', rfl⟩ := hq
      have hm := List.mem_of_getElem? hq'
      obtain ⟨v, h1, h2, h3⟩ := hr i q' hq'
      exact ⟨v, h1, h2, dro_rep hH (fun b hb => .inl hb) n q' v h3 (hok q' hm) (closedL_iff.1 hc2 _ (List.mem_map_of_mem hm))⟩
theorem clr_list {n : Nat} {cs : List PV} {vs : List Value} (hH : RepH X β w L) (hr : RepL X β w cs vs) (hok : clrOk L n cs) : closedL (clr L n cs) = true ∧ RepL X [] w (clr L n cs) vs := by
  have hanti : ∀ b, X b ∨ Live [] b → X b ∨ Live β b := fun b hb => by rcases hb with hb | hb; exact .inl hb; exact absurd hb live_nil
  unfold clr
  cases hc : closedL cs with
  | true => exact ⟨hc, RepL.anti hanti cs vs hc hr⟩
  | false =>
    rcases hok with hok | ⟨hok, hc2⟩
    · rw [hc] at hok; cases hok
    · refine ⟨hc2, ?_⟩
      rw [RepL.iff] at hr
      simp only [cond_false]
      rw [RepL.iff]
      refine ⟨by simp [hr.1], fun i q v hq hv => ?_⟩
      rw [List.getElem?_map, Option.map_eq_some_iff] at hq
      obtain ⟨q', hq', rfl⟩ := hq
      have hm := List.mem_of_getElem? hq'
      exact dro_rep hH (fun b hb => .inl hb) n q' v (hr.2 i q' v hq' hv) (hok q' hm) (closedL_iff.1 hc2 _ (List.mem_map_of_mem hm))
theorem get_set {id j : Nat} {x : Base} (h : (β.set id .dead)[j]? = some x) (hx : x ≠ .dead) : β[j]? = some x := by
  rw [List.getElem?_set] at h
  split at h
  · split at h
    · cases h; exact absurd rfl hx
    · cases h
  · exact h
theorem live_set {id b : Nat} (h : Live (β.set id .dead) b) : Live β b := by
  obtain ⟨j, base, h⟩ := h
  exact ⟨j, base, get_set h (by simp)⟩
mutual
theorem apartV {b id base : Nat} (hb : β[id]? = some (.blk b base)) (hinj : ∀ (i j c x y : Nat), β[i]? = some (.blk c x) → β[j]? = some (.blk c y) → i = j) : ∀ (p : PV) (v : Value), RepV X β w p v → RepV (fun x => X x ∨ x = b) (β.set id .dead) w p v
  | .any, _, _ => by simp [RepV]
  | .lit v0, v, h => by simpa [RepV] using h
  | .ro n cells, v, h => by
    simp only [RepV] at h ⊢
    obtain ⟨a, cap, hv, hn, hc⟩ := h
    refine ⟨a, cap, hv, hn, ?_⟩
    rcases hc with hc | ⟨c, off, ha, hx, hl, hr⟩
    · exact .inl hc
    · exact .inr ⟨c, off, ha, fun h => by rcases h with h | h; exact hx h; exact hl ⟨id, base, h ▸ hb⟩, fun h => hl (live_set h), apartR hb hinj c cells off hr⟩
  | .own i off n sz, v, h => by
    simp only [RepV] at h ⊢
    refine ⟨by simpa using h.1, fun c base' hc => h.2.1 c base' (get_set hc (by simp)), fun hc => h.2.2 (get_set hc (by simp))⟩
  | .ptr i off, v, h => by
    simp only [RepV] at h ⊢
    refine ⟨by simpa using h.1, fun c base' hc => h.2.1 c base' (get_set hc (by simp)), fun hc => h.2.2 (get_set hc (by simp))⟩
  | .rptr cells, v, h => by
    simp only [RepV] at h ⊢
    obtain ⟨c, off, hv, hc⟩ := h
    refine ⟨c, off, hv, ?_⟩
    rcases hc with hc | ⟨hx, hl, hr⟩
    · exact .inl hc
    · exact .inr ⟨fun h => by rcases h with h | h; exact hx h; exact hl ⟨id, base, h ▸ hb⟩, fun h => hl (live_set h), apartR hb hinj c cells off hr⟩
  | .agg cells, v, h => by
    simp only [RepV] at h ⊢
    obtain ⟨vs, hv, hr⟩ := h
    exact ⟨vs, hv, apartL hb hinj cells vs hr⟩
  | .tup cells, v, h => by
    simp only [RepV] at h ⊢
    obtain ⟨vs, hv, hr⟩ := h
    exact ⟨vs, hv, apartL hb hinj cells vs hr⟩
  | .fn f first captured, v, h => by
    simp only [RepV] at h ⊢
    obtain ⟨xs, ys, hv, hx, hy⟩ := h
    exact ⟨xs, ys, hv, apartL hb hinj first xs hx, apartL hb hinj captured ys hy⟩
  | .new _ _ _, v, h => by simp [RepV] at h
theorem apartR {b id base : Nat} (hb : β[id]? = some (.blk b base)) (hinj : ∀ (i j c x y : Nat), β[i]? = some (.blk c x) → β[j]? = some (.blk c y) → i = j) (c : Nat) : ∀ (ps : List PV) (off : Nat), RepRow X β w c off ps → RepRow (fun x => X x ∨ x = b) (β.set id .dead) w c off ps
  | [], _, _ => by simp [RepRow]
  | p :: ps, off, h => by
    simp only [RepRow] at h ⊢
    obtain ⟨⟨v, hv, ho, hr⟩, h2⟩ := h
    exact ⟨⟨v, hv, ho, apartV hb hinj p v hr⟩, apartR hb hinj c ps (off + 1) h2⟩
theorem apartL {b id base : Nat} (hb : β[id]? = some (.blk b base)) (hinj : ∀ (i j c x y : Nat), β[i]? = some (.blk c x) → β[j]? = some (.blk c y) → i = j) : ∀ (ps : List PV) (vs : List Value), RepL X β w ps vs → RepL (fun x => X x ∨ x = b) (β.set id .dead) w ps vs
  | [], vs, h => by simpa [RepL] using h
  | p :: ps, vs, h => by
    simp only [RepL] at h ⊢
    obtain ⟨v, r, hv, h1, h2⟩ := h
    exact ⟨v, r, hv, apartV hb hinj p v h1, apartL hb hinj ps r h2⟩
end
theorem kill_apart (hH : RepH X β w L) {id b base : Nat} (hb : β[id]? = some (.blk b base)) : RepH (fun x => X x ∨ x = b) (β.set id .dead) w (L.set id .dead) ∧
    (∀ p v, RepV X β w p v → RepV X (β.set id .dead) w p v) ∧ ¬ Live (β.set id .dead) b ∧ Live β b := by
  obtain ⟨hk, g⟩ := repH_kill hH id
  have hlb : Live β b := ⟨id, base, hb⟩
  have hnl : ¬ Live (β.set id .dead) b := by
    rintro ⟨j, bs, hj⟩
    rw [List.getElem?_set] at hj
    split at hj
    · first | (split at hj <;> cases hj; done) | (cases hj; done)
    · rename_i hne
      exact hne (hH.inj j id b bs base hj hb).symm
  refine ⟨?_, fun p v h => h.grow g, hnl, hlb⟩
  -- the rows of the others keep clear of 'b', since 'b' was live
  have rows : ∀ (p : PV) (v : Value), RepV X β w p v → RepV (fun x => X x ∨ x = b) (β.set id .dead) w p v := by
    intro p v h
    exact apartV hb hH.inj p v h
  refine ⟨hk.len, hk.inj, hk.lt, fun d hd => ?_, fun j cs hj => ?_⟩
  · rcases hd with hd | rfl
    · exact hk.out d hd
    · exact ⟨hH.lt _ hlb, hnl⟩
  · have hj2 : L[j]? = some (.cells cs) := by
      rw [List.getElem?_set] at hj
      split at hj
      · first | (split at hj <;> cases hj; done) | (cases hj; done)
      · exact hj
    rcases hk.ent j cs hj with h | ⟨b', base', c, el, e1, e2, e3, e4⟩
    · exact .inl h
    · refine .inr ⟨b', base', c, el, e1, e2, e3, ?_⟩
      rcases hH.ent j cs hj2 with ⟨f1, _⟩ | ⟨b5, base5, c5, el5, f1, f2, f3, f4⟩
      · have := g.keep j _ (by rw [hH.len]; exact (List.getElem?_eq_some_iff.1 hj2).1) e1 (by simp)
        rw [this] at f1; cases f1
      · have := g.keep j _ (by rw [hH.len]; exact (List.getElem?_eq_some_iff.1 hj2).1) e1 (by simp)
        rw [this] at f1; cases f1
        rw [RepRow.iff] at f4 ⊢
        intro i p hp
        obtain ⟨v, h1, h2, h3⟩ := f4 i p hp
        exact ⟨v, h1, h2, rows p v h3⟩
theorem freeze_sound {id off n sz : Nat} {t : Nat} {env : Env} {a : Act} (hA : RepA N X β w env a) (hH : RepH X β w L) (hl : lookup env t = .own id off n sz)
    (hok : (slc L (.own id off n sz)).1) (hc : closedL (slc L (.own id off n sz)).2.2 = true) :
    RepA N X (β.set id .dead) w ((t, .ro n (slc L (.own id off n sz)).2.2) :: env) a ∧ RepH X (β.set id .dead) w (L.set id .dead) ∧ Grow β (β.set id .dead) w w := by
  obtain ⟨hk, g⟩ := repH_kill hH id
  obtain ⟨cs, hL, hle⟩ : ∃ cs, L[id]? = some (.cells cs) ∧ off + n * sz ≤ cs.length := by
    have := hok
    unfold slc at this
    simp only at this
    split at this
    · rename_i cs h; exact ⟨cs, h, this⟩
    · exact this.elim
  have hsl : (slc L (.own id off n sz)).2.2 = (cs.drop off).take (n * sz) := by simp [slc, hL]
  rw [hsl] at hc ⊢
  have hv := hA.slot t
  rw [hl] at hv
  refine ⟨⟨hA.size, hA.defers, fun u => ?_, hA.glob.grow g⟩, hk, g⟩
  simp only [lookup]
  cases hb : (t == u) with
  | false => simp only [cond_false]; exact (hA.slot u).grow g
  | true =>
    have := eq_of_beq hb
    subst this
    simp only [cond_true]
    rcases own_slice hH hL hv with ⟨h1, h2, h3, h4, h5⟩ | ⟨b, base, c, el, cap, h1, h2, hn, h3, h4, h5, h6⟩
    · subst h5; subst h3; subst h4
      rw [h2]
      simp only [RepV]
      exact ⟨none, 0, rfl, Nat.le_refl _, .inl (by simp [clr, closedL])⟩
    · obtain ⟨hk2, hall, hnl, hlb⟩ := kill_apart hH h1
      have hrow := apartR h1 hH.inj b _ _ (row_sub h6 off (n * sz))
      rw [h2]
      simp only [RepV]
      refine ⟨_, cap, rfl, hn, .inr ⟨b, base + off, rfl, fun hx => (hH.out b hx).2 hlb, hnl, ?_⟩⟩
      exact RepRow.anti (fun x hx => by
        rcases hx with hx | hx
        · exact .inl (.inl hx)
        · exact .inr hx) b _ _ hc hrow
theorem freezep_sound {id : Nat} {t : Nat} {env : Env} {a : Act} {cs : List PV} (hA : RepA N X β w env a) (hH : RepH X β w L) (hl : lookup env t = .ptr id 0) (hL : L[id]? = some (.cells cs)) (hc : closedL cs = true) :
    RepA N X (β.set id .dead) w ((t, .rptr cs) :: env) a ∧ RepH X (β.set id .dead) w (L.set id .dead) ∧ Grow β (β.set id .dead) w w := by
  obtain ⟨hk, g⟩ := repH_kill hH id
  have hv := hA.slot t
  rw [hl] at hv
  refine ⟨⟨hA.size, hA.defers, fun u => ?_, hA.glob.grow g⟩, hk, g⟩
  simp only [lookup]
  cases hb : (t == u) with
  | false => simp only [cond_false]; exact (hA.slot u).grow g
  | true =>
    have := eq_of_beq hb
    subst this
    simp only [cond_true]
    simp only [RepV] at hv
    rcases hH.ent id cs hL with ⟨h1, _⟩ | ⟨b, base, c, el, h1, h2, h3, h4⟩
    · exact absurd h1 hv.2.2
    · rw [hv.2.1 b base h1]
      simp only [RepV]
      refine ⟨b, base + 0, rfl, .inr ⟨fun hx => (hH.out b hx).2 ⟨id, base, h1⟩, ?_, ?_⟩⟩
      · rintro ⟨j, y, hj⟩
        rw [List.getElem?_set] at hj
        split at hj
        · split at hj <;> cases hj
        · rename_i hne
          exact hne (hH.inj j id b y base hj h1).symm
      · rw [RepRow.iff] at h4 ⊢
        intro i p hp
        obtain ⟨v, hv2, ho, hr⟩ := h4 i p hp
        exact ⟨v, hv2, ho, hr.grow g⟩
inductive LRun (P : Program) (Γ : Con) (all : List Oper) : List Oper → Env → LH → Env → LH → Prop
  | nil {env L} : LRun P Γ all [] env L env L
  | cons {o r env L v L1 env' L'} (h : stepV P Γ false all o env L v L1) (k : LRun P Γ all r (putIn env o.dst v) L1 env' L') : LRun P Γ all (o :: r) env L env' L'
  | freeze {ops env L t id off n sz env' L'} (hl : lookup env t = .own id off n sz) (hok : (slc L (.own id off n sz)).1) (hc : closedL (slc L (.own id off n sz)).2.2 = true)
      (k : LRun P Γ all ops ((t, .ro n (slc L (.own id off n sz)).2.2) :: env) (L.set id .dead) env' L') : LRun P Γ all ops env L env' L'
  | freezep {ops env L t id cs env' L'} (hl : lookup env t = .ptr id 0) (hL : L[id]? = some (.cells cs)) (hc : closedL cs = true)
      (k : LRun P Γ all ops ((t, .rptr cs) :: env) (L.set id .dead) env' L') : LRun P Γ all ops env L env' L'
theorem lrun_sound (hΓ : GammaOk P Γ) {all : List Oper} {Q : Exit → Act → World → Prop} {ops : List Oper} {env env' : Env} {L L' : LH} (h : LRun P Γ all ops env L env' L') : ∀ {β : List Base} {w : World} {a : Act},
    RepA N X β w env a → RepH X β w L → (∀ o ∈ ops, ∀ d, o.dst = some d → d < N) →
    (∀ a' w' β', RepA N X β' w' env' a' → RepH X β' w' L' → Grow β β' w w' → Q .normal a' w') → wpList P all.toArray Q ops a w := by
  induction h with
  | nil => intro β w a hA hH _ hQ; exact hQ a w β hA hH (Grow.refl β w)
  | @cons o r env L v L1 env' L' hs k ih =>
    intro β w a hA hH hd hQ
    have := step_sound (Q := Q) (K := wpList P all.toArray Q r) hΓ hs hA hH (hd o (by simp)) (fun a1 w1 β1 e1 e2 e3 _ =>
      ih e1 e2 (fun o ho => hd o (by simp [ho])) (fun a' w' β' f1 f2 f3 => hQ a' w' β' f1 f2 (e3.trans f3)))
    unfold wpList
    split
    · rename_i hw; rw [if_pos hw] at this; exact .inl this
    · rename_i hw; rw [if_neg hw] at this; exact this
  | freeze hl hok hc k ih =>
    intro β w a hA hH hd hQ
    obtain ⟨h1, h2, h3⟩ := freeze_sound hA hH hl hok hc
    exact ih h1 h2 hd (fun a' w' β' f1 f2 f3 => hQ a' w' β' f1 f2 (h3.trans f3))
  | freezep hl hL hc k ih =>
    intro β w a hA hH hd hQ
    obtain ⟨h1, h2, h3⟩ := freezep_sound hA hH hl hL hc
    exact ih h1 h2 hd (fun a' w' β' f1 f2 f3 => hQ a' w' β' f1 f2 (h3.trans f3))
end Go.Ab
namespace Go.Ab
open Go Go.RowKit
set_option linter.unusedVariables false
set_option linter.unusedSimpArgs false
variable {P : Program} {Γ : Con} {X : Nat → Prop} {β : List Base} {w : World} {L : LH} {N : Nat}
section tail
variable {all : List Oper} {vs : List PV} {env0 : Env} {Q : Exit → Act → World → Prop} {m : Nat}
theorem take_zip' {A B : Type} : ∀ (n : Nat) (x : List A) (y : List B), (x.zip y).take n = (x.take n).zip (y.take n)
  | 0, _, _ => by simp
  | n + 1, [], _ => by simp
  | n + 1, _ :: _, [] => by simp
  | n + 1, a :: x, b :: y => by simp [take_zip' n x y]
def needs (all : List Oper) : Nat → Nat → List Nat
  | 0, _ => []
  | f + 1, i => match all[i]? with
    | some o => o.after.toList.flatMap fun e => if Region.binds .any e then e.on :: needs all f e.on else []
    | none => []
def tailOk (all : List Oper) (m : Nat) : Bool := decide (m ≤ all.length) && (List.range all.length).all fun i => decide (i < m) || (List.range i).all fun j => (needs all all.length i).contains j
theorem needs_in {S : List Nat} (hcl : ∀ j ∈ S, ∀ q, all[j]? = some q → ∀ e ∈ q.after.toList, Region.binds .any e = true → e.on ∈ S) : ∀ (f i : Nat) (o : Oper), all[i]? = some o → (∀ e ∈ o.after.toList, Region.binds .any e = true → e.on ∈ S) → ∀ j ∈ needs all f i, j ∈ S
  | 0, i, o, _, _, j, h => by simp [needs] at h
  | f + 1, i, o, ho, hd, j, h => by
    simp only [needs, ho, List.mem_flatMap] at h
    obtain ⟨e, he, hj⟩ := h
    split at hj
    · rename_i hb
      rcases List.mem_cons.1 hj with rfl | hj
      · exact hd e he hb
      · have heS := hd e he hb
        cases hq : all[e.on]? with
        | none => cases f with
          | zero => simp [needs] at hj
          | succ f => simp [needs, hq] at hj
        | some q => exact needs_in hcl f e.on q hq (hcl e.on heS q hq) j hj
    · simp at hj
theorem tail_force (ht : tailOk all m = true) {S : List Nat} (hcl : ∀ j ∈ S, ∀ q, all[j]? = some q → ∀ e ∈ q.after.toList, Region.binds .any e = true → e.on ∈ S)
    {i : Nat} {o : Oper} (ho : all[i]? = some o) (hm : m ≤ i) (hd : ∀ e ∈ o.after.toList, Region.binds .any e = true → e.on ∈ S) : ∀ j, j < i → j ∈ S := by
  intro j hj
  have hi := (List.getElem?_eq_some_iff.1 ho).1
  unfold tailOk at ht
  rw [Bool.and_eq_true] at ht
  have := List.all_eq_true.1 ht.2 i (by simp [hi])
  simp only [Bool.or_eq_true, decide_eq_true_eq] at this
  rcases this with h | h
  · omega
  · have := List.all_eq_true.1 h j (by simp [hj])
    exact needs_in hcl _ i o ho hd j (by simpa using this)
theorem tail_sound (hΓ : GammaOk P Γ) (hok : drawOk all = true) (hd : ∀ o ∈ all, ∀ d, o.dst = some d → d < N) (ht : tailOk all m = true) {ops : List Oper} {env env' : Env} {L L' : LH} (h : LRun P Γ all ops env L env' L') :
    ∀ {k fuel : Nat} {listed : Array Bool} {β : List Base} {w : World} {a : Act}, m ≤ k → ops = all.drop k → k ≤ all.length → all.length - k ≤ fuel → listed.size = all.length → (∀ i, i < all.length → listed[i]? = some (decide (i ∈ List.range k))) →
      (∀ j ∈ List.range k, ∀ q, all[j]? = some q → ∀ e ∈ q.after.toList, Region.binds .any e = true → e.on ∈ List.range k) →
      RepA N X β w env a → RepH X β w L → (∀ a' w' β', RepA N X β' w' env' a' → RepH X β' w' L' → Grow β β' w w' → Q .normal a' w') → wpAny P .any all.toArray Q fuel listed a w := by
  induction h with
  | nil =>
    intro k fuel listed β w a hmk hops hk hf hsz hS hcl hA hH hQ
    have hkl : k = all.length := by
      have := congrArg List.length hops
      simp at this; omega
    subst hkl
    have hq := hQ a w β hA hH (Grow.refl β w)
    have hno : ∀ i, i ∉ Region.ready .any all.toArray listed := by
      intro i hi
      obtain ⟨o, ho, hn, _⟩ := (mem_ready' hsz hS (by simp)).1 hi
      exact hn (by simpa using (List.getElem?_eq_some_iff.1 ho).1)
    cases fuel with
    | zero => exact ⟨List.eq_nil_iff_forall_not_mem.2 hno, hq⟩
    | succ f => exact ⟨fun _ => hq, fun i hi => absurd hi (hno i)⟩
  | @cons o r env L v L1 env' L' hs kk ih =>
    intro k fuel listed β w a hmk hops hk hf hsz hS hcl hA hH hQ
    have hkl : k < all.length := by
      have := congrArg List.length hops
      simp at this; omega
    have hget : all[k]? = some o := by
      have : (all.drop k)[0]? = some o := by rw [← hops]; rfl
      simpa using this
    have hr : r = all.drop (k + 1) := by
      have : (all.drop k).tail = r := by rw [← hops]; rfl
      rw [← this]; simp
    cases fuel with
    | zero => omega
    | succ f =>
      refine ⟨fun hn => ?_, fun i hi => ?_⟩
      · have := ready_nil hok hsz hS (by simp; omega) hn k hkl
        simp at this
      · obtain ⟨q, hq, hn, hdep⟩ := (mem_ready' hsz hS (by simp; omega)).1 hi
        have hik : i = k := by
          have h1 : k ≤ i := by simpa using hn
          by_cases h2 : k < i
          · have := tail_force ht hcl hq (by omega) hdep k h2
            simp at this
          · omega
        subst hik
        rw [hget] at hq; cases hq
        have := step_sound (Q := Q) (K := wpAny P .any all.toArray Q f (listed.setIfInBounds i true)) hΓ hs hA hH (hd o (List.mem_of_getElem? hget)) (fun a1 w1 β1 e1 e2 e3 _ =>
          ih (k := i + 1) (by omega) hr (by omega) (by omega) (by simp [hsz]) (fun j hj => by
            by_cases hji : j = i
            · subst hji; simp [hsz, hj]
            · rw [Array.getElem?_setIfInBounds_ne (Ne.symm hji), hS j hj]
              simp; omega) (fun j hj q hq e he hb => by
              simp at hj
              by_cases hji : j = i
              · subst hji
                rw [hget] at hq; cases hq
                have := hdep e he hb
                simp at this ⊢; omega
              · have := hcl j (by simp; omega) q hq e he hb
                simp at this ⊢; omega) e1 e2 (fun a' w' β' f1 f2 f3 => hQ a' w' β' f1 f2 (e3.trans f3)))
        unfold wpOp
        have hget' : all.toArray[i]? = some o := by simpa using hget
        rw [hget']
        simp only
        split
        · rename_i hw; rw [if_pos hw] at this; exact .inl this
        · rename_i hw; rw [if_neg hw] at this; exact this
  | freeze hl hok' hc kk ih =>
    intro k fuel listed β w a hmk hops hk hf hsz hS hcl hA hH hQ
    obtain ⟨h1, h2, h3⟩ := freeze_sound hA hH hl hok' hc
    exact ih hmk hops hk hf hsz hS hcl h1 h2 (fun a' w' β' f1 f2 f3 => hQ a' w' β' f1 f2 (h3.trans f3))
  | freezep hl hL hc kk ih =>
    intro k fuel listed β w a hmk hops hk hf hsz hS hcl hA hH hQ
    obtain ⟨h1, h2, h3⟩ := freezep_sound hA hH hl hL hc
    exact ih hmk hops hk hf hsz hS hcl h1 h2 (fun a' w' β' f1 f2 f3 => hQ a' w' β' f1 f2 (h3.trans f3))
theorem draw_end2 (hok : drawOk all = true) (hl : vs.length = all.length) {S : List Nat} (hall : ∀ i, i < m → i ∈ S) (hS : ∀ i ∈ S, i < m) (hm : m ≤ all.length) (t : Nat) :
    lookup (puts env0 (((all.map (·.dst)).zip vs).take m)) t = lookup (puts env0 (psOf all vs S)) t := by
  obtain ⟨_, _, h3⟩ := drawOk_spec hok
  have take_get : ∀ (k : Nat) x, (((all.map (·.dst)).zip vs).take m)[k]? = some x → k < m ∧ ((all.map (·.dst)).zip vs)[k]? = some x := by
    intro k x h
    rw [List.getElem?_take] at h
    split at h
    · exact ⟨by assumption, h⟩
    · cases h
  by_cases hw : ∃ (j : Nat) (q : Oper), j < m ∧ all[j]? = some q ∧ q.dst = some t
  · obtain ⟨j, q, hjm, hj, hq⟩ := hw
    have hjl : j < vs.length := by omega
    have huniq : ∀ (k : Nat) x, ((all.map (·.dst)).zip vs)[k]? = some x → x.1 = some t → k = j ∧ x.2 = vs[j] := by
      intro k x hx ht
      obtain ⟨r, e1, e2, e3⟩ := (zip_get hl).1 hx
      have : k = j := h3 k r j q t e1 hj hq (by rw [← e2]; exact ht)
      subst this
      rw [List.getElem?_eq_getElem hjl] at e3
      exact ⟨rfl, (Option.some.inj e3).symm⟩
    have hz : ((all.map (·.dst)).zip vs)[j]? = some (some t, vs[j]) := (zip_get hl).2 ⟨q, hj, hq.symm, by simp [hjl]⟩
    have hz2 : (((all.map (·.dst)).zip vs).take m)[j]? = some (some t, vs[j]) := by rw [List.getElem?_take, if_pos hjm]; exact hz
    rw [puts_some (v := vs[j]) ⟨_, List.mem_of_getElem? hz2, rfl⟩ (fun x hx he => by
      obtain ⟨k, hk⟩ := List.getElem?_of_mem hx
      exact (huniq k x (take_get k x hk).2 he).2)]
    rw [puts_some (v := vs[j]) ⟨_, mem_psOf.2 ⟨j, hall j hjm, hz⟩, rfl⟩ (fun x hx he => by
      obtain ⟨k, _, hk⟩ := mem_psOf.1 hx
      exact (huniq k x hk he).2)]
  · rw [puts_none (fun x hx he => by
      obtain ⟨k, hk⟩ := List.getElem?_of_mem hx
      obtain ⟨hkm, hk⟩ := take_get k x hk
      obtain ⟨r, e1, e2, e3⟩ := (zip_get hl).1 hk
      exact hw ⟨k, r, hkm, e1, by rw [← e2]; exact he⟩)]
    rw [puts_none (fun x hx he => by
      obtain ⟨k, hkS, hk⟩ := mem_psOf.1 hx
      obtain ⟨r, e1, e2, e3⟩ := (zip_get hl).1 hk
      exact hw ⟨k, r, hS k hkS, e1, by rw [← e2]; exact he⟩)]
theorem draw_sound2 (hΓ : GammaOk P Γ) (hok : drawOk all = true) (hl : vs.length = all.length) (hd : ∀ o ∈ all, ∀ d, o.dst = some d → d < N) (hm : m ≤ all.length) (ht : tailOk all m = true)
    (hv : ∀ (i : Nat) o v, i < m → all[i]? = some o → vs[i]? = some v → stepV P Γ true all o (puts env0 (((all.map (·.dst)).zip vs).take i)) L v L)
    {env' : Env} {L' : LH} (htail : LRun P Γ all (all.drop m) (puts env0 (((all.map (·.dst)).zip vs).take m)) L env' L')
    (w0 : World) (hQ : ∀ a' w' β', RepA N X β' w' env' a' → RepH X β' w' L' → Grow β β' w0 w' → Q .normal a' w') :
    ∀ (fuel : Nat) (S : List Nat) (listed : Array Bool) (a : Act) (w : World), (List.range m).countP (fun i => decide (i ∉ S)) + (all.length - m) ≤ fuel → listed.size = all.length → (∀ i, i < all.length → listed[i]? = some (decide (i ∈ S))) → (∀ i ∈ S, i < m) →
      (∀ j ∈ S, ∀ q, all[j]? = some q → ∀ e ∈ q.after.toList, Region.binds .any e = true → e.on ∈ S) →
      RepA N X β w (puts env0 (psOf all vs S)) a → RepH X β w L → Grow β β w0 w → wpAny P .any all.toArray Q fuel listed a w := by
  have fin : ∀ (fuel : Nat) (S : List Nat) (listed : Array Bool) (a : Act) (w : World), (all.length - m) ≤ fuel → listed.size = all.length → (∀ i, i < all.length → listed[i]? = some (decide (i ∈ S))) → (∀ i, i < m → i ∈ S) → (∀ i ∈ S, i < m) →
      (∀ j ∈ S, ∀ q, all[j]? = some q → ∀ e ∈ q.after.toList, Region.binds .any e = true → e.on ∈ S) →
      RepA N X β w (puts env0 (psOf all vs S)) a → RepH X β w L → Grow β β w0 w → wpAny P .any all.toArray Q fuel listed a w := by
    intro fuel S listed a w hf hsz hS hall hSm hcl hA hH hg
    have hiff : ∀ i, i ∈ List.range m ↔ i ∈ S := fun i => ⟨fun h => hall i (by simpa using h), fun h => by simpa using hSm i h⟩
    exact tail_sound hΓ hok hd ht htail (k := m) (Nat.le_refl m) rfl hm hf hsz (fun i hi => by rw [hS i hi]; simp only [hiff]) (fun j hj q hq e he hb => (hiff _).2 (hcl j ((hiff _).1 hj) q hq e he hb))
      ⟨hA.size, hA.defers, fun t => by rw [draw_end2 hok hl hall hSm hm t]; exact hA.slot t, hA.glob⟩ hH (fun a' w' β' h1 h2 h3 => hQ a' w' β' h1 h2 (hg.trans h3))
  intro fuel
  induction fuel with
  | zero =>
    intro S listed a w hc hsz hS hSm hcl hA hH hg
    have hall : ∀ i, i < m → i ∈ S := by
      intro i hi
      have h0 : (List.range m).countP (fun i => decide (i ∉ S)) = 0 := by omega
      rw [List.countP_eq_zero] at h0
      have := h0 i (by simp [hi])
      simpa using this
    exact fin 0 S listed a w (by omega) hsz hS hall hSm hcl hA hH hg
  | succ fuel ih =>
    intro S listed a w hc hsz hS hSm hcl hA hH hg
    by_cases hall : ∀ i, i < m → i ∈ S
    · exact fin (fuel + 1) S listed a w (by omega) hsz hS hall hSm hcl hA hH hg
    have hSl : ∀ i ∈ S, i < all.length := fun i hi => by have := hSm i hi; omega
    refine ⟨fun hr => absurd (fun i hi => ready_nil hok hsz hS hSl hr i (by omega)) hall, fun i hi => ?_⟩
    obtain ⟨o, ho, hn, hdep⟩ := (mem_ready' hsz hS hSl).1 hi
    have hil := (List.getElem?_eq_some_iff.1 ho).1
    have him : i < m := by
      refine Decidable.byContradiction fun h => hall fun j hj => tail_force ht hcl ho (by omega) hdep j (by omega)
    have hiv : i < vs.length := by omega
    have hstep := hv i o vs[i] him ho (by simp [hiv])
    have hstep' := stepV_congr (fun t ht => draw_agree (env0 := env0) hok hl hcl ho hn hdep ht) hstep
    have hps : puts env0 (psOf all vs (S ++ [i])) = putIn (puts env0 (psOf all vs S)) o.dst vs[i] := by
      have hz : ((all.map (·.dst)).zip vs)[i]? = some (o.dst, vs[i]) := (zip_get hl).2 ⟨o, ho, rfl, by simp [hiv]⟩
      simp [puts, psOf, List.filterMap_append, hz]
    have := step_sound (Q := Q) (K := wpAny P .any all.toArray Q fuel (listed.setIfInBounds i true)) hΓ hstep' hA hH (hd o (List.mem_of_getElem? ho)) (fun a1 w1 β1 e1 e2 e3 e4 => by
      obtain ⟨rfl, _⟩ := e4 rfl
      refine ih (S ++ [i]) _ a1 w1 ?_ (by simp [hsz]) (fun k hk => ?_) (fun k hk => ?_) (fun j hj q hq e he hb => ?_) (by rw [hps]; exact e1) e2 (hg.trans e3)
      · have := countP_lt (p := fun k => decide (k ∉ S)) (q := fun k => decide (k ∉ S ++ [i])) (l := List.range m) (fun x _ hx => by simp at hx ⊢; exact hx.1) ⟨i, by simp [him], by simpa using hn, by simp⟩
        omega
      · by_cases hki : k = i
        · subst hki
          simp [hsz, hk]
        · rw [Array.getElem?_setIfInBounds_ne (Ne.symm hki), hS k hk]
          simp [hki]
      · rcases List.mem_append.1 hk with h | h
        · exact hSm k h
        · simp at h; omega
      · rcases List.mem_append.1 hj with h | h
        · exact List.mem_append_left _ (hcl j h q hq e he hb)
        · simp at h; subst h
          rw [ho] at hq; cases hq
          exact List.mem_append_left _ (hdep e he hb))
    unfold wpOp
    have hget : all.toArray[i]? = some o := by simpa using ho
    rw [hget]
    simp only
    split
    · rename_i hw; rw [if_pos hw] at this; exact .inl this
    · rename_i hw; rw [if_neg hw] at this; exact this
theorem region_tail (hΓ : GammaOk P Γ) (hmx : P.follows .mixedOrders = true) {id : Nat} {env env1 env' : Env} {L1 L' : LH} {a : Act} (hok : drawOk all = true) (ht : tailOk all m = true) (hd : ∀ o ∈ all, ∀ d, o.dst = some d → d < N)
    (h : TRun P Γ true all (all.take m) env L env1 L1) (h2 : LRun P Γ all (all.drop m) env1 L1 env' L') (hA : RepA N X β w env a) (hH : RepH X β w L)
    (hQ : ∀ a' w' β', RepA N X β' w' env' a' → RepH X β' w' L' → Grow β β' w w' → Q .normal a' w') : (Code.region id all.toArray true).wp P Q a w := by
  have hm : m ≤ all.length := by unfold tailOk at ht; rw [Bool.and_eq_true] at ht; simpa using ht.1
  obtain ⟨rfl, vs1, e2, rfl, e4⟩ := trun_vals h
  have hl1 : vs1.length = m := by rw [e2]; simp; omega
  let vs := vs1 ++ List.replicate (all.length - m) PV.any
  have hl : vs.length = all.length := by simp [vs, hl1]; omega
  have hz : ((all.map (·.dst)).zip vs).take m = ((all.take m).map (·.dst)).zip vs1 := by
    rw [take_zip', List.map_take]
    congr 1
    simp [vs, ← hl1]
  have hv : ∀ (i : Nat) o v, i < m → all[i]? = some o → vs[i]? = some v → stepV P Γ true all o (puts env (((all.map (·.dst)).zip vs).take i)) L1 v L1 := by
    intro i o v him ho hvi
    have := e4 i o v (by rw [List.getElem?_take, if_pos him]; exact ho) (by
      rw [← hvi]; simp only [vs]; rw [List.getElem?_append_left (by omega)])
    rw [← hz, List.take_take, Nat.min_eq_left (by omega)] at this
    exact this
  refine wp_region_any hmx ?_
  have hH' : RepH X β { w with drawn := w.drawn + 1 } L1 := hH.same grow_drew_id (fun _ _ => rfl)
  have := draw_sound2 (Q := Q) (N := N) (X := X) (β := β) hΓ hok hl hd hm ht hv (by rw [hz]; exact h2) w hQ all.length [] (Array.replicate all.length false) a { w with drawn := w.drawn + 1 }
    (by have : (List.range m).countP (fun i => decide (i ∉ ([] : List Nat))) ≤ m := Nat.le_trans List.countP_le_length (by simp)
        omega) (by simp) (fun i hi => by simp [hi]) (by simp) (by simp) (hA.grow grow_drew_id) hH' grow_drew_id
  simpa using this
end tail
end Go.Ab
namespace Go.Ab
open Go Go.RowKit
set_option linter.unusedVariables false
set_option linter.unusedSimpArgs false
variable {P : Program} {Γ : Con} {X : Nat → Prop} {β : List Base} {w : World} {L : LH} {N : Nat}
set_option linter.constructorNameAsVariable false
inductive Cls where
  | m
  | r
  | l
  | a
  | s
  | k
def cls : Op → Cls
  | .move _ | .assign _ | .pick _ _ _ | .binOp _ _ _ _ _ | .unOp _ _ _ | .extract _ _ | .index _ _ _ | .field _ _ _ | .build _ _ | .buildSlice _ _ _ | .sliceToArrayPointer _ _ => .m
  | .nilCheck _ | .indexAddr _ _ _ | .fieldAddr _ _ _ => .l
  | .alloc _ | .box _ _ | .makeSlice _ _ _ => .a
  | .store _ _ _ => .s
  | .load _ _ | .convert _ _ _ | .slice _ _ _ _ _ => .r
  | .call c => match c.callee with
    | .builtin .len => .l
    | .builtin .cap => .l
    | .builtin .append => .k
    | .builtin .copy => .s
    | _ => .r
  | _ => .k
def isW : Cls → Bool
  | .a => true
  | .s => true
  | .k => true
  | _ => false
def md (o : Op) : Bool := !isW (cls o)
def freeP : Cls → Cls → Bool
  | .m, _ => true
  | _, .m => true
  | .r, .a => true
  | .l, .a => true
  | .l, .s => true
  | .s, .l => true
  | a, b => !isW a && !isW b
def addrOf : Op → Option Nat
  | .load _ (.tmp t) => some t
  | .store _ (.tmp t) _ => some t
  | _ => none
def isLS : Op → Op → Bool
  | .load _ (.tmp _), .store _ (.tmp _) _ => true
  | .store _ (.tmp _) _, .load _ (.tmp _) => true
  | _, _ => false
def steady (all : List Oper) (i : Nat) (t : Option Nat) : Bool :=
  (List.range all.length).all fun j => decide (j < i) || match all[j]? with
    | some q => q.dst != t
    | none => true
def ndMask (acc : List Nat) (o : Oper) : Nat :=
  o.after.toList.foldl (fun m e => bif Region.binds .any e then m ||| (1 <<< e.on ||| acc.getD e.on 0) else m) 0
def nds : List Oper → List Nat → List Nat
  | [], acc => acc
  | o :: r, acc => nds r (acc ++ [ndMask acc o])
def boundTo (all : List Oper) (i j : Nat) : Bool := ((nds all []).getD j 0).testBit i
inductive Dep (all : List Oper) : Nat → Nat → Prop
  | one {i : Nat} {o : Oper} {e : Edge} (ho : all[i]? = some o) (he : e ∈ o.after.toList) (hb : Region.binds .any e = true) : Dep all e.on i
  | more {i m : Nat} {o : Oper} {e : Edge} (ho : all[i]? = some o) (he : e ∈ o.after.toList) (hb : Region.binds .any e = true) (h : Dep all m e.on) : Dep all m i
theorem mask_dep {all : List Oper} {acc : List Nat} {i : Nat} {o : Oper} (ho : all[i]? = some o) (hacc : ∀ (k m : Nat), (acc.getD k 0).testBit m = true → Dep all m k) : ∀ m, (ndMask acc o).testBit m = true → Dep all m i := by
  have gen : ∀ (l : List Edge) (z : Nat), (∀ e ∈ l, e ∈ o.after.toList) → (∀ m, z.testBit m = true → Dep all m i) →
      ∀ m, (l.foldl (fun m e => bif Region.binds .any e then m ||| (1 <<< e.on ||| acc.getD e.on 0) else m) z).testBit m = true → Dep all m i := by
    intro l
    induction l with
    | nil => intro z _ hz m h; exact hz m h
    | cons e l ih =>
      intro z hl hz m h
      simp only [List.foldl_cons] at h
      refine ih _ (fun e he => hl e (by simp [he])) (fun m hm => ?_) m h
      cases hb : Region.binds .any e with
      | false => rw [hb] at hm; exact hz m hm
      | true =>
        rw [hb] at hm
        simp only [cond_true, Nat.testBit_or, Bool.or_eq_true] at hm
        rcases hm with hm | hm | hm
        · exact hz m hm
        · rw [Nat.one_shiftLeft, Nat.testBit_two_pow] at hm
          have : e.on = m := by simpa using hm
          subst this
          exact .one ho (hl e (by simp)) hb
        · exact .more ho (hl e (by simp)) hb (hacc _ _ hm)
  exact gen _ 0 (fun e he => he) (fun m hm => by simp at hm)
theorem nds_dep {all : List Oper} : ∀ (ops pre : List Oper) (acc : List Nat), all = pre ++ ops → acc.length = pre.length → (∀ (k m : Nat), (acc.getD k 0).testBit m = true → Dep all m k) →
    ∀ (k m : Nat), ((nds ops acc).getD k 0).testBit m = true → Dep all m k
  | [], pre, acc, _, _, hacc, k, m, h => hacc k m h
  | o :: r, pre, acc, he, hl, hacc, k, m, h => by
    refine nds_dep r (pre ++ [o]) (acc ++ [ndMask acc o]) (by rw [he]; simp) (by simp [hl]) (fun k m hk => ?_) k m h
    have ho : all[pre.length]? = some o := by rw [he]; simp
    by_cases h1 : k < acc.length
    · rw [List.getD_eq_getElem?_getD, List.getElem?_append_left h1, ← List.getD_eq_getElem?_getD] at hk
      exact hacc k m hk
    · by_cases h2 : k = acc.length
      · subst h2
        rw [List.getD_eq_getElem?_getD, List.getElem?_append_right (Nat.le_refl _)] at hk
        simp at hk
        rw [hl]
        exact mask_dep ho hacc m hk
      · rw [List.getD_eq_getElem?_getD, List.getElem?_eq_none (by simp; omega)] at hk
        simp at hk
theorem bound_dep {all : List Oper} {m i : Nat} (h : boundTo all m i = true) : Dep all m i :=
  nds_dep all [] [] rfl rfl (fun k m h => by simp at h) i m h
theorem dep_in {all : List Oper} {S : List Nat} (hcl : ∀ j ∈ S, ∀ q, all[j]? = some q → ∀ e ∈ q.after.toList, Region.binds .any e = true → e.on ∈ S) {m i : Nat} (h : Dep all m i) :
    (∀ o, all[i]? = some o → ∀ e ∈ o.after.toList, Region.binds .any e = true → e.on ∈ S) → m ∈ S := by
  induction h with
  | one ho he hb => intro h; exact h _ ho _ he hb
  | more ho he hb h ih => intro h; exact ih fun o ho' e he' hb' => hcl _ (h _ ho _ he hb) o ho' e he' hb'
def pairOk (all : List Oper) (i j : Nat) : Bool :=
  match all[i]?, all[j]? with
  | some o, some q => boundTo all i j || freeP (cls o.op) (cls q.op) || (isLS o.op q.op && steady all i (addrOf o.op) && steady all j (addrOf q.op))
  | _, _ => true
def anyOk (all : List Oper) : Bool := drawOk all && (List.range all.length).all fun j => (List.range j).all fun i => pairOk all i j
def rowNe : PV → PV → Bool
  | .ptr q _, .ptr r _ => q != r
  | .rptr _, .ptr _ _ => true
  | .ptr _ _, .rptr _ => true
  | _, _ => false
def addrV (env : Env) (t : Option Nat) : PV := match t with
  | some t => lookup env t
  | none => .any
def lsOk (all : List Oper) (env : Env) : Bool :=
  (List.range all.length).all fun j => (List.range j).all fun i => match all[i]?, all[j]? with
    | some o, some q => boundTo all i j || freeP (cls o.op) (cls q.op) || rowNe (addrV env (addrOf o.op)) (addrV env (addrOf q.op))
    | _, _ => true
theorem get_ext {id : Nat} {x y : LE} (h : L[id]? = some x) : (L ++ [y])[id]? = some x := by
  rw [List.getElem?_append_left (List.getElem?_eq_some_iff.1 h).1]; exact h
theorem slc_ext {x : PV} {y : LE} (h : (slc L x).1) : slc (L ++ [y]) x = slc L x := by
  unfold slc at h ⊢
  split
  · rfl
  · rfl
  · rename_i id off n sz
    simp only at h
    cases hL : L[id]? with
    | none => simp [hL] at h
    | some le => rw [get_ext hL]
  · rename_i h1 h2 h3
    rfl
theorem dro_ext {y : LE} : ∀ (n : Nat) (p : PV), droOk L n p → closed (dro L n p) = true → dro (L ++ [y]) n p = dro L n p ∧ droOk (L ++ [y]) n p
  | 0, p, _, _ => ⟨by simp only [dro], by simp only [droOk]⟩
  | n + 1, p, hok, hc => by
    cases p with
    | own id off k sz =>
      simp only [dro, droOk, closed] at hok hc ⊢
      rw [slc_ext hok.1]
      have key : ∀ q ∈ (slc L (.own id off k sz)).2.2, dro (L ++ [y]) n q = dro L n q ∧ droOk (L ++ [y]) n q := fun q hq =>
        dro_ext n q (hok.2 q hq) (closedL_iff.1 hc _ (List.mem_map_of_mem hq))
      exact ⟨by rw [List.map_congr_left fun q hq => (key q hq).1], hok.1, fun q hq => (key q hq).2⟩
    | agg cs =>
      simp only [dro, droOk, closed] at hok hc ⊢
      have key : ∀ q ∈ cs, dro (L ++ [y]) n q = dro L n q ∧ droOk (L ++ [y]) n q := fun q hq =>
        dro_ext n q (hok q hq) (closedL_iff.1 hc _ (List.mem_map_of_mem hq))
      exact ⟨by rw [List.map_congr_left fun q hq => (key q hq).1], fun q hq => (key q hq).2⟩
    | ptr id off =>
      simp only [dro, droOk] at hc ⊢
      split at hc
      · rename_i cs hL
        simp only [hL, get_ext hL]
        exact ⟨trivial, trivial⟩
      · simp [closed] at hc
    | any => simp only [dro, droOk]; exact ⟨trivial, trivial⟩
    | lit u => simp only [dro, droOk]; exact ⟨trivial, trivial⟩
    | ro k cs => simp only [dro, droOk]; exact ⟨trivial, trivial⟩
    | rptr cs => simp only [dro, droOk]; exact ⟨trivial, trivial⟩
    | tup cs => simp only [dro, droOk]; exact ⟨trivial, trivial⟩
    | fn f a b => simp only [dro, droOk]; exact ⟨trivial, trivial⟩
    | new a b c => simp only [dro, droOk]; exact ⟨trivial, trivial⟩
theorem borrow_ext {y : LE} {p : PV} (h : borrowOk L p) : borrow (L ++ [y]) p = borrow L p ∧ borrowOk (L ++ [y]) p := by
  unfold borrow
  rcases h with h | ⟨h1, h2⟩
  · rw [h]; exact ⟨rfl, .inl h⟩
  · obtain ⟨e1, e2⟩ := dro_ext (y := y) 4 p h1 h2
    cases hc : closed p with
    | true => exact ⟨rfl, .inl hc⟩
    | false => exact ⟨e1, .inr ⟨e2, by rw [e1]; exact h2⟩⟩
def Same (P : Program) (Γ : Con) (ρ : Operand → PV) (op : Op) (L L' : LH) : Prop :=
  (opF P Γ true ρ L op).pre → (opF P Γ true ρ L' op).pre ∧ (opF P Γ true ρ L' op).val = (opF P Γ true ρ L op).val
theorem same_m {ρ : Operand → PV} {op : Op} (hc : cls op = .m) (L L' : LH) : Same P Γ ρ op L L' := by
  have bad : ∀ {p : Prop}, OR.bad.pre → p := fun h => h.elim
  intro h
  cases op <;> simp only [cls] at hc <;> first | (cases hc; done) | skip
  case move x => exact ⟨trivial, rfl⟩
  case assign x => exact ⟨trivial, rfl⟩
  case pick => exact h.elim
  case call c => obtain ⟨callee, args, tys⟩ := c; cases callee <;> simp only at hc <;> first | (cases hc; done) | (rename_i b; cases b <;> simp at hc)
  all_goals simp only [opF] at h ⊢
  case build t parts =>
    have e : ∀ ps, ((buildF P t ps L').pre = (buildF P t ps L).pre) ∧ (buildF P t ps L').val = (buildF P t ps L).val := by
      intro ps
      unfold buildF
      split
      · split
        · split
          · exact ⟨rfl, rfl⟩
          · exact ⟨rfl, rfl⟩
        · exact ⟨rfl, rfl⟩
      · cases (placesF P _).all Option.isSome
        · exact ⟨rfl, rfl⟩
        · simp only [cond_true]
          split
          · exact ⟨rfl, rfl⟩
          · exact ⟨rfl, rfl⟩
      · exact ⟨rfl, rfl⟩
    exact ⟨by rw [(e _).1]; exact h, (e _).2⟩
  case buildSlice t len parts =>
    have e : ∀ ps, ((buildSliceF P true t len ps L').pre = (buildSliceF P true t len ps L).pre) ∧ (buildSliceF P true t len ps L').val = (buildSliceF P true t len ps L).val := by
      intro ps
      unfold buildSliceF
      repeat' split
      all_goals first | exact ⟨rfl, rfl⟩
    exact ⟨by rw [(e _).1]; exact h, (e _).2⟩
  case binOp op t x y yt =>
    have e : ∀ a b, ((binF P op t a b L').pre = (binF P op t a b L).pre) ∧ (binF P op t a b L').val = (binF P op t a b L).val := by
      intro a b
      unfold binF
      repeat' split
      all_goals first | exact ⟨rfl, rfl⟩
    exact ⟨by rw [(e _ _).1]; exact h, (e _ _).2⟩
  case sliceToArrayPointer t x =>
    have e : ∀ a, ((arrF P t a L').pre = (arrF P t a L).pre) ∧ (arrF P t a L').val = (arrF P t a L).val := by
      intro a
      unfold arrF
      repeat' split
      all_goals first | exact ⟨rfl, rfl⟩
    exact ⟨by rw [(e _).1]; exact h, (e _).2⟩
  case unOp op t x =>
    have e : ∀ a, ((unF op a L').pre = (unF op a L).pre) ∧ (unF op a L').val = (unF op a L).val := by
      intro a
      unfold unF
      repeat' split
      all_goals first | exact ⟨rfl, rfl⟩
    exact ⟨by rw [(e _).1]; exact h, (e _).2⟩
  case index t x i =>
    have e : ∀ a b, ((indexF P t a b L').pre = (indexF P t a b L).pre) ∧ (indexF P t a b L').val = (indexF P t a b L).val := by
      intro a b
      unfold indexF
      repeat' split
      all_goals first | exact ⟨rfl, rfl⟩
    exact ⟨by rw [(e _ _).1]; exact h, (e _ _).2⟩
  case field t x f =>
    have e : ∀ a, ((fieldF P t a f L').pre = (fieldF P t a f L).pre) ∧ (fieldF P t a f L').val = (fieldF P t a f L).val := by
      intro a
      unfold fieldF
      repeat' split
      all_goals first | exact ⟨rfl, rfl⟩
    exact ⟨by rw [(e _).1]; exact h, (e _).2⟩
  case extract x i =>
    have e : ∀ a, ((extractF a i L').pre = (extractF a i L).pre) ∧ (extractF a i L').val = (extractF a i L).val := by
      intro a
      unfold extractF
      repeat' split
      all_goals first | exact ⟨rfl, rfl⟩
    exact ⟨by rw [(e _).1]; exact h, (e _).2⟩
theorem callF_ext {g : FuncId} {args : List PV} {y : LE} (h : (callF Γ true g args L).pre) : (callF Γ true g args (L ++ [y])).pre ∧ (callF Γ true g args (L ++ [y])).val = (callF Γ true g args L).val := by
  unfold callF at h ⊢
  cases hE : Γ.tab g with
  | none => simp only [hE] at h; exact h.elim
  | ext S => simp only [hE] at h ⊢; exact ⟨h, trivial⟩
  | st T => simp only [hE, cond_true] at h; exact h.elim
  | pure S =>
    simp only [hE] at h ⊢
    unfold pureF at h ⊢
    obtain ⟨p1, p2, p3⟩ := h
    have key : args.map (borrow (L ++ [y])) = args.map (borrow L) := List.map_congr_left fun q hq => (borrow_ext (p2 q hq)).1
    simp only [key]
    refine ⟨⟨p1, fun p hp => (borrow_ext (p2 p hp)).2, p3⟩, ?_⟩
    unfold adopt
    split <;> rfl
theorem same_ext {ρ : Operand → PV} {op : Op} (hc : cls op = .r ∨ cls op = .l) (L : LH) (y : LE) : Same P Γ ρ op L (L ++ [y]) := by
  intro h
  cases op <;> simp only [cls] at hc <;> first | (rcases hc with hc | hc <;> cases hc; done) | skip
  case nilCheck x =>
    simp only [opF] at h ⊢
    split at h
    · rename_i cs hcs; simp only [hcs]; exact ⟨trivial, trivial⟩
    · rename_i id off hcs
      try simp only [hcs]
      split at h
      · rename_i cs hL; simp only [hL, get_ext hL]; exact ⟨trivial, trivial⟩
      · exact h.elim
    · exact h.elim
  case indexAddr t x i =>
    simp only [opF] at h ⊢
    unfold indexAddrF at h ⊢
    split at h
    case h_2 => exact h.elim
    split at h
    · split at h
      · exact ⟨h, rfl⟩
      · split at h
        · rename_i cs hL; simp only [hL, get_ext hL]; exact ⟨h, trivial⟩
        · exact h.elim
      · exact h.elim
    · split at h
      · split at h
        · rename_i cs hL; simp only [hL, get_ext hL]; exact ⟨h, trivial⟩
        · exact h.elim
      · exact ⟨h, rfl⟩
      · exact h.elim
    · exact h.elim
  case fieldAddr t x f =>
    simp only [opF] at h ⊢
    unfold fieldAddrF at h ⊢
    split at h
    case h_2 => exact h.elim
    split at h
    case h_2 => exact h.elim
    rename_i fd hf
    try simp only [hf]
    split at h
    · rename_i T id off hF hx
      try simp only [hF, hx]
      split at h
      · rename_i cs hL; simp only [hL, get_ext hL]; exact ⟨h, trivial⟩
      · exact h.elim
    · rename_i T cs hF hx; simp only [hF, hx]; exact ⟨h, trivial⟩
    · exact h.elim
  case load t x =>
    simp only [opF] at h ⊢
    unfold loadF at h ⊢
    split at h
    case h_2 => exact h.elim
    split at h
    · split at h
      · rename_i cs hL; simp only [hL, get_ext hL]; exact ⟨h, trivial⟩
      · exact h.elim
    · exact ⟨h, rfl⟩
    · exact h.elim
  case convert src dst x =>
    simp only [opF] at h ⊢
    simp only [convG_draw] at h ⊢
    unfold convF at h ⊢
    split at h
    case h_2 => exact h.elim
    split at h
    · exact ⟨h, rfl⟩
    · exact ⟨h, rfl⟩
    · split at h
      · rename_i hE
        simp only at h ⊢
        rw [slc_ext h.1]
        exact ⟨h, rfl⟩
      · exact h.elim
    · split at h
      · exact ⟨h, rfl⟩
      · exact h.elim
    · exact h.elim
  case slice t x lo hi mx =>
    simp only [opF] at h ⊢
    unfold sliceF at h ⊢
    split at h
    · split at h
      · split at h
        · exact ⟨h, rfl⟩
        · exact h.elim
      · split at h
        · exact ⟨h, rfl⟩
        · exact h.elim
      · split at h
        · rename_i l hh cs hl hhi hL; simp only [hl, hhi, hL, get_ext hL]; exact ⟨h, trivial⟩
        · exact h.elim
      · exact h.elim
    · split at h
      · split at h
        · rename_i cs hL; simp only [hL, get_ext hL]; exact ⟨h, trivial⟩
        · exact h.elim
      · exact ⟨h, rfl⟩
      · exact h.elim
    · split at h
      · split at h
        · exact ⟨h, rfl⟩
        · exact h.elim
      · exact h.elim
    · exact h.elim
  case call c =>
    simp only [opF] at h ⊢
    split at h
    · rename_i x t e1 e2 e3
      unfold lenF at h ⊢
      split at h
      · split at h
        · exact ⟨h, rfl⟩
        · exact ⟨h, rfl⟩
        · exact ⟨h, rfl⟩
        · split at h
          · rename_i cs hL; simp only [hL, get_ext hL]; exact ⟨h, trivial⟩
          · exact h.elim
        · exact ⟨h, rfl⟩
        · exact h.elim
      · exact h.elim
    · unfold capF at h ⊢
      split at h
      · split at h
        · exact ⟨h, rfl⟩
        · exact ⟨h, rfl⟩
        · exact h.elim
      · exact h.elim
    · unfold minF at h ⊢
      split at h
      · exact ⟨h, rfl⟩
      · exact h.elim
    · unfold maxF at h ⊢
      split at h
      · exact ⟨h, rfl⟩
      · exact h.elim
    · exfalso; simp_all
    · exfalso; simp_all
    · exact callF_ext h
    · exact h.elim
theorem same_set {ρ : Operand → PV} {op : Op} (hc : cls op = .l) {id : Nat} {c c' : List PV} (hid : L[id]? = some (.cells c)) : Same P Γ ρ op L (L.set id (.cells c')) := by
  have get : ∀ (j : Nat) cs, L[j]? = some (.cells cs) → ∃ cs', (L.set id (.cells c'))[j]? = some (.cells cs') := by
    intro j cs hj
    rw [List.getElem?_set]
    split
    · rename_i e; subst e
      have hlt := (List.getElem?_eq_some_iff.1 hid).1
      exact ⟨c', by simp [hlt]⟩
    · exact ⟨cs, hj⟩
  intro h
  cases op <;> simp only [cls] at hc <;> first | (cases hc; done) | skip
  case nilCheck x =>
    simp only [opF] at h ⊢
    split at h
    · rename_i cs hcs; simp only [hcs]; exact ⟨trivial, trivial⟩
    · rename_i id off hcs
      try simp only [hcs]
      split at h
      · rename_i cs hL; obtain ⟨cs', hL'⟩ := get _ _ hL; simp only [hL, hL']; exact ⟨trivial, trivial⟩
      · exact h.elim
    · exact h.elim
  case indexAddr t x i =>
    simp only [opF] at h ⊢
    unfold indexAddrF at h ⊢
    split at h
    case h_2 => exact h.elim
    split at h
    · split at h
      · exact ⟨h, rfl⟩
      · split at h
        · rename_i cs hL; obtain ⟨cs', hL'⟩ := get _ _ hL; simp only [hL, hL']; exact ⟨h, trivial⟩
        · exact h.elim
      · exact h.elim
    · split at h
      · split at h
        · rename_i cs hL; obtain ⟨cs', hL'⟩ := get _ _ hL; simp only [hL, hL']; exact ⟨h, trivial⟩
        · exact h.elim
      · exact ⟨h, rfl⟩
      · exact h.elim
    · exact h.elim
  case fieldAddr t x f =>
    simp only [opF] at h ⊢
    unfold fieldAddrF at h ⊢
    split at h
    case h_2 => exact h.elim
    split at h
    case h_2 => exact h.elim
    rename_i fd hf
    try simp only [hf]
    split at h
    · rename_i T id off hF hx
      try simp only [hF, hx]
      split at h
      · rename_i cs hL; obtain ⟨cs', hL'⟩ := get _ _ hL; simp only [hL, hL']; exact ⟨h, trivial⟩
      · exact h.elim
    · rename_i T cs hF hx; simp only [hF, hx]; exact ⟨h, trivial⟩
    · exact h.elim
  case call c =>
    simp only [opF] at h ⊢
    split at h
    · rename_i x t e1 e2 e3
      unfold lenF at h ⊢
      split at h
      · split at h
        · exact ⟨h, rfl⟩
        · exact ⟨h, rfl⟩
        · exact ⟨h, rfl⟩
        · split at h
          · rename_i cs hL; obtain ⟨cs', hL'⟩ := get _ _ hL; simp only [hL, hL']; exact ⟨h, trivial⟩
          · exact h.elim
        · exact ⟨h, rfl⟩
        · exact h.elim
      · exact h.elim
    · unfold capF at h ⊢
      split at h
      · split at h
        · exact ⟨h, rfl⟩
        · exact ⟨h, rfl⟩
        · exact h.elim
      · exact h.elim
    · exfalso; simp_all
    · exfalso; simp_all
    · exfalso; simp_all
    · exfalso; simp_all
    · exfalso; simp_all
    · exact h.elim
theorem same_load {ρ : Operand → PV} {t : TypeId} {a : Operand} {id : Nat} {x : LE} (hne : (∃ q off, ρ a = .ptr q off ∧ q ≠ id) ∨ ∃ cs, ρ a = .rptr cs) : Same P Γ ρ (.load t a) L (L.set id x) := by
  intro h
  simp only [opF] at h ⊢
  unfold loadF at h ⊢
  split at h
  case h_2 => exact h.elim
  rcases hne with ⟨q, off, hq, hne⟩ | ⟨cs, hq⟩
  · rw [hq] at h ⊢
    simp only at h ⊢
    rw [List.getElem?_set_ne (Ne.symm hne)]
    split at h
    · rename_i cs hL; simp only [hL]; exact ⟨h, trivial⟩
    · exact h.elim
  · rw [hq] at h ⊢
    exact ⟨h, rfl⟩
theorem stepV_same {all : List Oper} {o : Oper} {env : Env} {v : PV} {L' : LH} (h : stepV P Γ true all o env L v L) (hs : Same P Γ (evalIn env) o.op L L') : stepV P Γ true all o env L' v L' := by
  rcases h with ⟨hg, ⟨c, a, b, t, h1, h2, h3, _⟩ | ⟨h1, h2, _⟩⟩ | ⟨hg, h2, _⟩
  · exact .inl ⟨hg, .inl ⟨c, a, b, t, h1, h2, h3, rfl⟩⟩
  · obtain ⟨e1, e2⟩ := hs h1
    exact .inl ⟨hg, .inr ⟨e1, by rw [h2, e2], (opF_draw e1).symm⟩⟩
  · exact .inr ⟨hg, h2, rfl⟩
theorem step_a {all : List Oper} {o : Oper} {env : Env} {v : PV} {L' : LH} (hc : cls o.op = .a) (h : stepV P Γ false all o env L v L') : L' = L ∨ ∃ y, L' = L ++ [y] := by
  rcases h with ⟨_, ⟨_, _, _, _, _, _, _, h⟩ | ⟨h1, _, h2⟩⟩ | ⟨_, _, h⟩
  · exact .inl h
  · right
    rw [h2]
    cases hop : o.op <;> rw [hop] at hc <;> simp only [cls] at hc <;> first | (cases hc; done) | skip
    case alloc t =>
      rw [hop] at h1
      simp only [opF] at h1 ⊢
      unfold allocF at h1 ⊢
      split at h1
      · exact ⟨_, rfl⟩
      · exact h1.elim
    case box t x =>
      rw [hop] at h1
      simp only [opF] at h1 ⊢
      exact ⟨_, rfl⟩
    case makeSlice t l c =>
      rw [hop] at h1
      simp only [opF] at h1 ⊢
      unfold makeF at h1 ⊢
      split at h1
      · split at h1
        · exact ⟨_, rfl⟩
        · exact h1.elim
      · exact h1.elim
    case call c => obtain ⟨callee, args, tys⟩ := c; cases callee <;> simp only at hc <;> first | (cases hc; done) | (rename_i b; cases b <;> simp at hc)
  · exact .inl h
theorem step_s {all : List Oper} {o : Oper} {env : Env} {v : PV} {L' : LH} (hc : cls o.op = .s) (h : stepV P Γ false all o env L v L') :
    L' = L ∨ ∃ id c c', L[id]? = some (.cells c) ∧ L' = L.set id (.cells c') ∧ ∀ t x y, o.op = .store t x y → ∃ off, evalIn env x = .ptr id off := by
  rcases h with ⟨_, ⟨_, _, _, _, _, _, _, h⟩ | ⟨h1, _, h2⟩⟩ | ⟨_, _, h⟩
  · exact .inl h
  · right
    rw [h2]
    cases hop : o.op <;> rw [hop] at hc <;> simp only [cls] at hc <;> first | (cases hc; done) | skip
    case store t x y =>
      rw [hop] at h1
      simp only [opF] at h1 ⊢
      unfold storeF at h1 ⊢
      split at h1
      · split at h1
        · rename_i id off hx
          split at h1
          · rename_i cs hL
            simp only [hx, hL]
            refine ⟨id, cs, _, hL, rfl, fun t' x' y' e => ?_⟩
            cases e
            exact ⟨off, hx⟩
          · exact h1.elim
        · exact h1.elim
      · exact h1.elim
    case call c =>
      rw [hop] at h1
      simp only [opF] at h1 ⊢
      split at h1
      · exfalso; simp_all
      · exfalso; simp_all
      · exfalso; simp_all
      · exfalso; simp_all
      · exfalso; simp_all
      · unfold copyF at h1 ⊢
        split at h1
        · split at h1
          · split at h1
            · rename_i cs hL
              simp only [*]
              exact ⟨_, cs, _, hL, rfl, fun t' x' y' e => by cases e⟩
            · exact h1.elim
          · exact h1.elim
        · exact h1.elim
      · exfalso; simp_all
      · exact h1.elim
  · exact .inl h
end Go.Ab
namespace Go.Ab
open Go Go.RowKit
set_option linter.unusedVariables false
set_option linter.unusedSimpArgs false
variable {P : Program} {Γ : Con} {X : Nat → Prop} {β : List Base} {w : World} {L : LH} {N : Nat}
def ARun (P : Program) (Γ : Con) (all : List Oper) : List Oper → Env → LH → Env → LH → Prop
  | [], env, L, env', L' => env' = env ∧ L' = L
  | o :: r, env, L, env', L' => ∃ v L1, stepV P Γ (md o.op) all o env L v L1 ∧ ARun P Γ all r (putIn env o.dst v) L1 env' L'
theorem arun_vals {all : List Oper} : ∀ {ops : List Oper} {env env' : Env} {L L' : LH}, ARun P Γ all ops env L env' L' →
    ∃ (vs : List PV) (Ls : Nat → LH), vs.length = ops.length ∧ env' = puts env ((ops.map (·.dst)).zip vs) ∧ Ls 0 = L ∧ Ls ops.length = L' ∧
      ∀ (i : Nat) o v, ops[i]? = some o → vs[i]? = some v → stepV P Γ (md o.op) all o (puts env (((ops.map (·.dst)).zip vs).take i)) (Ls i) v (Ls (i + 1))
  | [], env, env', L, L', h => by
    obtain ⟨rfl, rfl⟩ := h
    exact ⟨[], fun _ => L', rfl, rfl, rfl, rfl, fun i o v ho => by simp at ho⟩
  | o :: ops, env, env', L, L', h => by
    obtain ⟨v, L1, hs, hr⟩ := h
    obtain ⟨vs, Ls, h1, h2, h3, h4, h5⟩ := arun_vals hr
    refine ⟨v :: vs, fun i => match i with | 0 => L | i + 1 => Ls i, by simp [h1], by rw [h2]; rfl, rfl, by simpa using h4, fun i q u hq hu => ?_⟩
    cases i with
    | zero => simp at hq hu; subst hq hu; simp only; rw [h3]; exact hs
    | succ i => simp at hq hu; exact h5 i q u hq hu
section any
variable {all : List Oper} {vs : List PV} {env0 env1 : Env} {Q : Exit → Act → World → Prop} {Ls : Nat → LH}
theorem anyOk_spec (h : anyOk all = true) : drawOk all = true ∧ ∀ (i j : Nat) o q, i < j → all[i]? = some o → all[j]? = some q →
    boundTo all i j = true ∨ freeP (cls o.op) (cls q.op) = true ∨ (isLS o.op q.op = true ∧ steady all i (addrOf o.op) = true ∧ steady all j (addrOf q.op) = true) := by
  simp only [anyOk, Bool.and_eq_true] at h
  refine ⟨h.1, fun i j o q hij ho hq => ?_⟩
  have := List.all_eq_true.1 h.2 j (by simp; exact (List.getElem?_eq_some_iff.1 hq).1)
  have := List.all_eq_true.1 this i (by simpa using hij)
  simp only [pairOk, ho, hq, Bool.or_eq_true, Bool.and_eq_true, or_assoc, and_assoc] at this
  exact this
theorem lsOk_spec {env : Env} (h : lsOk all env = true) {i j : Nat} {o q : Oper} (hij : i < j) (ho : all[i]? = some o) (hq : all[j]? = some q) :
    boundTo all i j = true ∨ freeP (cls o.op) (cls q.op) = true ∨ rowNe (addrV env (addrOf o.op)) (addrV env (addrOf q.op)) = true := by
  have := List.all_eq_true.1 h j (by simp; exact (List.getElem?_eq_some_iff.1 hq).1)
  have := List.all_eq_true.1 this i (by simpa using hij)
  simp only [ho, hq, Bool.or_eq_true, or_assoc] at this
  exact this
theorem steady_lookup (hl : vs.length = all.length) {i t : Nat} (h : steady all i (some t) = true) :
    lookup (puts env0 ((all.map (·.dst)).zip vs)) t = lookup (puts env0 (((all.map (·.dst)).zip vs).take i)) t := by
  have e : puts env0 ((all.map (·.dst)).zip vs) = puts (puts env0 (((all.map (·.dst)).zip vs).take i)) (((all.map (·.dst)).zip vs).drop i) := by
    rw [puts, puts, puts, ← List.foldl_append, List.take_append_drop]
  rw [e]
  refine puts_none fun x hx he => ?_
  obtain ⟨k, hk⟩ := List.getElem?_of_mem hx
  rw [List.getElem?_drop] at hk
  obtain ⟨q, h1, h2, _⟩ := (zip_get hl).1 hk
  have := List.all_eq_true.1 h (i + k) (by simp; exact (List.getElem?_eq_some_iff.1 h1).1)
  rw [h1] at this
  simp only [Bool.or_eq_true, decide_eq_true_eq, bne_iff_ne] at this
  rcases this with h | h
  · omega
  · exact h (by rw [← h2]; exact he)
theorem any_move (hok : anyOk all = true) (hls : lsOk all (puts env0 ((all.map (·.dst)).zip vs)) = true) (hl : vs.length = all.length)
    (hv : ∀ (i : Nat) o v, all[i]? = some o → vs[i]? = some v → stepV P Γ (md o.op) all o (puts env0 (((all.map (·.dst)).zip vs).take i)) (Ls i) v (Ls (i + 1)))
    {i j : Nat} {o q : Oper} {v : PV} (hi : all[i]? = some o) (hvi : vs[i]? = some v) (hj : all[j]? = some q) (hw : isW (cls o.op) = false) (hne : i ≠ j)
    (hun : if i < j then boundTo all i j = false else boundTo all j i = false) :
    (i < j → stepV P Γ true all o (puts env0 (((all.map (·.dst)).zip vs).take i)) (Ls j) v (Ls j) → stepV P Γ true all o (puts env0 (((all.map (·.dst)).zip vs).take i)) (Ls (j + 1)) v (Ls (j + 1))) ∧
    (j < i → stepV P Γ true all o (puts env0 (((all.map (·.dst)).zip vs).take i)) (Ls (j + 1)) v (Ls (j + 1)) → stepV P Γ true all o (puts env0 (((all.map (·.dst)).zip vs).take i)) (Ls j) v (Ls j)) := by
  have hjl : j < vs.length := by rw [hl]; exact (List.getElem?_eq_some_iff.1 hj).1
  have hsj := hv j q vs[j] hj (by simp [hjl])
  by_cases hwj : isW (cls q.op) = true
  case neg =>
    have hmd : md q.op = true := by simp only [md]; cases h : isW (cls q.op) <;> simp_all
    rw [hmd] at hsj
    have e := stepV_draw hsj
    exact ⟨fun _ h => by rw [e]; exact h, fun _ h => by rw [e] at h; exact h⟩
  have hmd : md q.op = false := by simp only [md, hwj, Bool.not_true]
  rw [hmd] at hsj
  by_cases hm : cls o.op = .m
  · exact ⟨fun _ h => stepV_same h (same_m hm _ _), fun _ h => stepV_same h (same_m hm _ _)⟩
  have set_back : ∀ {id : Nat} {c c' : List PV}, (Ls j)[id]? = some (.cells c) → Ls (j + 1) = (Ls j).set id (.cells c') → (Ls (j + 1))[id]? = some (.cells c') ∧ Ls j = (Ls (j + 1)).set id (.cells c) := by
    intro id c c' h1 h2
    have hlt := (List.getElem?_eq_some_iff.1 h1).1
    refine ⟨by rw [h2]; simp [hlt], ?_⟩
    rw [h2, List.set_set]
    apply List.ext_getElem?
    intro k
    rw [List.getElem?_set]
    split
    · rename_i e; subst e; exact h1
    · rfl
  have exempt : isLS o.op q.op = true → steady all i (addrOf o.op) = true → steady all j (addrOf q.op) = true → (rowNe (addrV (puts env0 ((all.map (·.dst)).zip vs)) (addrOf o.op)) (addrV (puts env0 ((all.map (·.dst)).zip vs)) (addrOf q.op)) = true ∨ rowNe (addrV (puts env0 ((all.map (·.dst)).zip vs)) (addrOf q.op)) (addrV (puts env0 ((all.map (·.dst)).zip vs)) (addrOf o.op)) = true) →
      ∀ a b : LH, (a = Ls j ∧ b = Ls (j + 1) ∨ a = Ls (j + 1) ∧ b = Ls j) → stepV P Γ true all o (puts env0 (((all.map (·.dst)).zip vs).take i)) a v a → stepV P Γ true all o (puts env0 (((all.map (·.dst)).zip vs).take i)) b v b := by
    intro h1 h2 h3 h4 a b hab h
    obtain ⟨t, x, y, ho⟩ : ∃ t x, ∃ y : Nat, o.op = .load t (.tmp x) := by
      cases ho : o.op <;> rw [ho] at h1 hw <;> (try simp only [isLS] at h1) <;> first | (cases h1; done) | skip
      case load t a => cases a <;> first | exact ⟨_, _, 0, rfl⟩ | (simp at h1; done)
      case store => simp [cls, isW] at hw
    obtain ⟨t2, x2, y2, hq⟩ : ∃ t x y, q.op = .store t (.tmp x) y := by
      rw [ho] at h1
      cases hq : q.op <;> rw [hq] at h1 <;> (try simp only [isLS] at h1) <;> first | (cases h1; done) | skip
      case store t a y => cases a <;> first | exact ⟨_, _, _, rfl⟩ | (simp at h1; done)
    rw [ho] at h2 h4
    rw [hq] at h3 h4
    simp only [addrOf, addrV] at h2 h3 h4
    rw [steady_lookup hl h2, steady_lookup hl h3] at h4
    have hss := step_s (by rw [hq]; rfl) hsj
    rcases hss with e | ⟨id, c, c', e1, e2, e3⟩
    · rcases hab with ⟨rfl, rfl⟩ | ⟨rfl, rfl⟩
      · rw [e]; exact h
      · rw [e] at h; exact h
    · obtain ⟨off, e4⟩ := e3 _ _ _ hq
      rw [evalIn] at e4
      have hne' : (∃ q off, evalIn (puts env0 (((all.map (·.dst)).zip vs).take i)) (.tmp x) = .ptr q off ∧ q ≠ id) ∨ ∃ cs, evalIn (puts env0 (((all.map (·.dst)).zip vs).take i)) (.tmp x) = .rptr cs := by
        simp only [evalIn]
        rw [e4] at h4
        cases hx : lookup (puts env0 (((all.map (·.dst)).zip vs).take i)) x <;> rw [hx] at h4 <;> simp only [rowNe, bne_iff_ne, ne_eq, Bool.false_eq_true, or_false, or_self] at h4
        · rename_i r off'
          refine .inl ⟨r, off', rfl, ?_⟩
          rcases h4 with h | h
          · exact h
          · exact fun e => h e.symm
        · exact .inr ⟨_, rfl⟩
      obtain ⟨b1, b2⟩ := set_back e1 e2
      rcases hab with ⟨rfl, rfl⟩ | ⟨rfl, rfl⟩
      · rw [e2]; exact stepV_same h (by rw [ho]; exact same_load hne')
      · rw [b2]; exact stepV_same h (by rw [ho]; exact same_load hne')
  have ls_comm : ∀ a b : Op, isLS a b = isLS b a := by
    intro a b
    cases a <;> cases b <;> first | rfl | (simp only [isLS]; done) | (rename_i t x t2 x2 y2; cases x <;> cases x2 <;> rfl) | (rename_i t x y t2 x2; cases x <;> cases x2 <;> rfl) | (rename_i t x t2 x2; cases x <;> cases x2 <;> rfl) | (rename_i t x y t2 x2 y2; cases x <;> cases x2 <;> rfl)
  constructor
  · intro hij h
    rw [if_pos hij] at hun
    rcases (anyOk_spec hok).2 i j o q hij hi hj with hb | hf | ⟨h1, h2, h3⟩
    · rw [hun] at hb; cases hb
    · cases hco : cls o.op <;> cases hcq : cls q.op <;> rw [hco, hcq] at hf <;> simp only [freeP, isW, Bool.not_true, Bool.not_false, Bool.and_false, Bool.false_and, Bool.and_true] at hf <;> first | (cases hf; done) | (exact absurd hco hm) | (rw [hcq] at hwj; simp [isW] at hwj; done) | (rw [hco] at hw; simp [isW] at hw; done) | skip
      · rcases step_a hcq hsj with e | ⟨y, e⟩
        · rw [e]; exact h
        · rw [e]; exact stepV_same h (same_ext (.inl hco) _ _)
      · rcases step_a hcq hsj with e | ⟨y, e⟩
        · rw [e]; exact h
        · rw [e]; exact stepV_same h (same_ext (.inr hco) _ _)
      · rcases step_s hcq hsj with e | ⟨id, c, c', e1, e2, _⟩
        · rw [e]; exact h
        · rw [e2]; exact stepV_same h (same_set hco e1)
    · rcases lsOk_spec hls hij hi hj with hb | hf | hn
      · rw [hun] at hb; cases hb
      · exfalso
        cases ho : o.op <;> rw [ho] at h1 hw hf <;> (try simp only [isLS] at h1) <;> first | (cases h1; done) | skip
        case load t a =>
          cases hq : q.op <;> rw [hq] at h1 hf <;> (try simp only [isLS] at h1) <;> first | (cases h1; done) | skip
          case store => simp [cls, freeP, isW] at hf
        case store => simp [cls, isW] at hw
      · exact exempt h1 h2 h3 (.inl hn) _ _ (.inl ⟨rfl, rfl⟩) h
  · intro hji h
    rw [if_neg (by omega)] at hun
    rcases (anyOk_spec hok).2 j i q o hji hj hi with hb | hf | ⟨h1, h2, h3⟩
    · rw [hun] at hb; cases hb
    · cases hco : cls o.op <;> cases hcq : cls q.op <;> rw [hco, hcq] at hf <;> simp only [freeP, isW, Bool.not_true, Bool.not_false, Bool.and_false, Bool.false_and, Bool.and_true] at hf <;> first | (cases hf; done) | (exact absurd hco hm) | (rw [hcq] at hwj; simp [isW] at hwj; done) | (rw [hco] at hw; simp [isW] at hw; done) | skip
      · rcases step_s hcq hsj with e | ⟨id, c, c', e1, e2, _⟩
        · rw [e] at h; exact h
        · obtain ⟨b1, b2⟩ := set_back e1 e2
          rw [b2]; exact stepV_same h (same_set hco b1)
    · rcases lsOk_spec hls hji hj hi with hb | hf | hn
      · rw [hun] at hb; cases hb
      · exfalso
        cases ho : o.op <;> rw [ho] at h1 hw hf <;> first | (simp [cls, isW] at hw; done) | skip
        all_goals cases hq : q.op <;> rw [hq] at h1 hf <;> (try simp only [isLS] at h1) <;> first | (cases h1; done) | skip
        all_goals simp [cls, freeP, isW] at hf
      · exact exempt (by rw [ls_comm]; exact h1) h3 h2 (.inr hn) _ _ (.inr ⟨rfl, rfl⟩) h
theorem any_at (hok : anyOk all = true) (hls : lsOk all (puts env0 ((all.map (·.dst)).zip vs)) = true) (hl : vs.length = all.length)
    (hv : ∀ (i : Nat) o v, all[i]? = some o → vs[i]? = some v → stepV P Γ (md o.op) all o (puts env0 (((all.map (·.dst)).zip vs).take i)) (Ls i) v (Ls (i + 1)))
    {S : List Nat} {k : Nat} (hk : k ≤ all.length) (hS : ∀ (j : Nat) q, all[j]? = some q → isW (cls q.op) = true → (j ∈ S ↔ j < k))
    (hcl : ∀ j ∈ S, ∀ m, boundTo all m j = true → m ∈ S)
    {i : Nat} {o : Oper} {v : PV} (hi : all[i]? = some o) (hvi : vs[i]? = some v) (hiS : i ∉ S) (hdep : ∀ m, boundTo all m i = true → m ∈ S) (hw : isW (cls o.op) = false) :
    stepV P Γ true all o (puts env0 (((all.map (·.dst)).zip vs).take i)) (Ls k) v (Ls k) := by
  have hil := (List.getElem?_eq_some_iff.1 hi).1
  have hmd : md o.op = true := by simp only [md, hw, Bool.not_false]
  have h0 := hv i o v hi hvi
  rw [hmd] at h0
  have e0 := stepV_draw h0
  rw [e0] at h0
  have free : ∀ j q, all[j]? = some q → i ≠ j → (if i < j then j < k else k ≤ j) → isW (cls q.op) = true → (if i < j then boundTo all i j = false else boundTo all j i = false) := by
    intro j q hj hne hc hwj
    split
    · rename_i hij
      rw [if_pos hij] at hc
      cases hb : boundTo all i j
      · rfl
      · exact absurd (hcl j ((hS j q hj hwj).2 hc) i hb) hiS
    · rename_i hij
      rw [if_neg hij] at hc
      cases hb : boundTo all j i
      · rfl
      · have := (hS j q hj hwj).1 (hdep j hb)
        omega
  -- a step that the rows do not see
  have stay : ∀ j q, all[j]? = some q → isW (cls q.op) = false → Ls (j + 1) = Ls j := by
    intro j q hj hwj
    have hjl : j < vs.length := by rw [hl]; exact (List.getElem?_eq_some_iff.1 hj).1
    have hs := hv j q vs[j] hj (by simp [hjl])
    have hm : md q.op = true := by simp only [md, hwj, Bool.not_false]
    rw [hm] at hs
    exact stepV_draw hs
  by_cases hki : k ≤ i
  · -- backward
    have down : ∀ d, d ≤ i - k → stepV P Γ true all o (puts env0 (((all.map (·.dst)).zip vs).take i)) (Ls (i - d)) v (Ls (i - d)) := by
      intro d
      induction d with
      | zero => intro _; exact h0
      | succ d ih =>
        intro hd
        have hp := ih (by omega)
        have hj : i - (d + 1) < all.length := by omega
        have hget : all[i - (d + 1)]? = some all[i - (d + 1)] := by simp [hj]
        have e1 : i - d = i - (d + 1) + 1 := by omega
        rw [e1] at hp
        cases hwj : isW (cls all[i - (d + 1)].op)
        · rw [stay _ _ hget hwj] at hp; exact hp
        · exact (any_move hok hls hl hv hi hvi hget hw (by omega) (free _ _ hget (by omega) (by rw [if_neg (by omega)]; omega) hwj)).2 (by omega) hp
    have := down (i - k) (Nat.le_refl _)
    rwa [show i - (i - k) = k by omega] at this
  · -- forward
    have up : ∀ d, i + 1 + d ≤ k → stepV P Γ true all o (puts env0 (((all.map (·.dst)).zip vs).take i)) (Ls (i + 1 + d)) v (Ls (i + 1 + d)) := by
      intro d
      induction d with
      | zero => intro _; rw [Nat.add_zero, e0]; exact h0
      | succ d ih =>
        intro hd
        have hp := ih (by omega)
        have hj : i + 1 + d < all.length := by omega
        have hget : all[i + 1 + d]? = some all[i + 1 + d] := by simp [hj]
        rw [show i + 1 + (d + 1) = i + 1 + d + 1 by omega]
        cases hwj : isW (cls all[i + 1 + d].op)
        · rw [stay _ _ hget hwj]; exact hp
        · exact (any_move hok hls hl hv hi hvi hget hw (by omega) (free _ _ hget (by omega) (by rw [if_pos (by omega)]; omega) hwj)).1 (by omega) hp
    have := up (k - (i + 1)) (by omega)
    rwa [show i + 1 + (k - (i + 1)) = k by omega] at this
theorem needs_closed {S : List Nat} (hcl : ∀ j ∈ S, ∀ q, all[j]? = some q → ∀ e ∈ q.after.toList, Region.binds .any e = true → e.on ∈ S) : ∀ j ∈ S, ∀ m, boundTo all m j = true → m ∈ S :=
  fun j hj m hm => dep_in hcl (bound_dep hm) (fun q hq => hcl j hj q hq)
theorem any_sound (hΓ : GammaOk P Γ) (hok : anyOk all = true) (hls : lsOk all (puts env0 ((all.map (·.dst)).zip vs)) = true) (hl : vs.length = all.length) (hd : ∀ o ∈ all, ∀ d, o.dst = some d → d < N)
    (hv : ∀ (i : Nat) o v, all[i]? = some o → vs[i]? = some v → stepV P Γ (md o.op) all o (puts env0 (((all.map (·.dst)).zip vs).take i)) (Ls i) v (Ls (i + 1)))
    (β0 : List Base) (w0 : World) (hQ : ∀ a' w' β', RepA N X β' w' (puts env0 ((all.map (·.dst)).zip vs)) a' → RepH X β' w' (Ls all.length) → Grow β0 β' w0 w' → Q .normal a' w') :
    ∀ (fuel : Nat) (S : List Nat) (k : Nat) (listed : Array Bool) (β : List Base) (a : Act) (w : World), (List.range all.length).countP (fun i => decide (i ∉ S)) ≤ fuel → listed.size = all.length → (∀ i, i < all.length → listed[i]? = some (decide (i ∈ S))) → (∀ i ∈ S, i < all.length) →
      (∀ j ∈ S, ∀ q, all[j]? = some q → ∀ e ∈ q.after.toList, Region.binds .any e = true → e.on ∈ S) → k ≤ all.length → (∀ (j : Nat) q, all[j]? = some q → isW (cls q.op) = true → (j ∈ S ↔ j < k)) →
      RepA N X β w (puts env0 (psOf all vs S)) a → RepH X β w (Ls k) → Grow β0 β w0 w → wpAny P .any all.toArray Q fuel listed a w := by
  obtain ⟨hdr, hpairs⟩ := anyOk_spec hok
  have stay : ∀ j q, all[j]? = some q → isW (cls q.op) = false → Ls (j + 1) = Ls j := by
    intro j q hj hwj
    have hjl : j < vs.length := by rw [hl]; exact (List.getElem?_eq_some_iff.1 hj).1
    have hs := hv j q vs[j] hj (by simp [hjl])
    have hm : md q.op = true := by simp only [md, hwj, Bool.not_false]
    rw [hm] at hs
    exact stepV_draw hs
  -- no operation that writes between two places
  have same : ∀ k d, k + d ≤ all.length → (∀ (j : Nat) q, k ≤ j → j < k + d → all[j]? = some q → isW (cls q.op) = false) → Ls (k + d) = Ls k := by
    intro k d
    induction d with
    | zero => intro _ _; rfl
    | succ d ih =>
      intro h1 h2
      have hj : k + d < all.length := by omega
      rw [show k + (d + 1) = k + d + 1 by omega, stay (k + d) all[k + d] (by simp [hj]) (h2 (k + d) all[k + d] (by omega) (by omega) (by simp [hj]))]
      exact ih (by omega) (fun j q h3 h4 h5 => h2 j q h3 (by omega) h5)
  have fin : ∀ (S : List Nat) (k : Nat) (β : List Base) (a : Act) (w : World), (∀ i, i < all.length → i ∈ S) → k ≤ all.length → (∀ (j : Nat) q, all[j]? = some q → isW (cls q.op) = true → (j ∈ S ↔ j < k)) → RepA N X β w (puts env0 (psOf all vs S)) a → RepH X β w (Ls k) → Grow β0 β w0 w → Q .normal a w := by
    intro S k β a w hall hk hkS hA hH hg
    have e : Ls all.length = Ls k := by
      have := same k (all.length - k) (by omega) (fun j q h1 h2 h3 => by
        cases hw : isW (cls q.op)
        · rfl
        · have := (hkS j q h3 hw).1 (hall j (List.getElem?_eq_some_iff.1 h3).1); omega)
      rwa [show k + (all.length - k) = all.length by omega] at this
    exact hQ a w β ⟨hA.size, hA.defers, fun t => by rw [draw_end hdr hl hall t]; exact hA.slot t, hA.glob⟩ (by rw [e]; exact hH) hg
  intro fuel
  induction fuel with
  | zero =>
    intro S k listed β a w hc hsz hS hSl hcl hk hkS hA hH hg
    have hall : ∀ i, i < all.length → i ∈ S := by
      intro i hi
      have h0 : (List.range all.length).countP (fun i => decide (i ∉ S)) = 0 := Nat.le_zero.1 hc
      rw [List.countP_eq_zero] at h0
      have := h0 i (by simp [hi])
      simpa using this
    refine ⟨?_, fin S k β a w hall hk hkS hA hH hg⟩
    rw [List.eq_nil_iff_forall_not_mem]
    intro i hi
    obtain ⟨o, ho, hn, _⟩ := (mem_ready' hsz hS hSl).1 hi
    exact hn (hall i (List.getElem?_eq_some_iff.1 ho).1)
  | succ fuel ih =>
    intro S k listed β a w hc hsz hS hSl hcl hk hkS hA hH hg
    refine ⟨fun hr => fin S k β a w (ready_nil hdr hsz hS hSl hr) hk hkS hA hH hg, fun i hi => ?_⟩
    obtain ⟨o, ho, hn, hdep⟩ := (mem_ready' hsz hS hSl).1 hi
    have hil := (List.getElem?_eq_some_iff.1 ho).1
    have hiv : i < vs.length := by omega
    have hvi : vs[i]? = some vs[i] := by simp [hiv]
    have hneeds : ∀ m, boundTo all m i = true → m ∈ S := fun m hm => dep_in hcl (bound_dep hm) (fun q hq => by rw [ho] at hq; cases hq; exact hdep)
    have hagree := fun t ht => draw_agree (env0 := env0) hdr hl hcl ho hn hdep (t := t) ht
    have hps : puts env0 (psOf all vs (S ++ [i])) = putIn (puts env0 (psOf all vs S)) o.dst vs[i] := by
      have hz : ((all.map (·.dst)).zip vs)[i]? = some (o.dst, vs[i]) := (zip_get hl).2 ⟨o, ho, rfl, by simp [hiv]⟩
      simp [puts, psOf, List.filterMap_append, hz]
    obtain ⟨k', hk', hkS', hstep⟩ : ∃ k', k' ≤ all.length ∧ (∀ (j : Nat) q, all[j]? = some q → isW (cls q.op) = true → (j ∈ S ++ [i] ↔ j < k')) ∧ stepV P Γ (md o.op) all o (puts env0 (psOf all vs S)) (Ls k) vs[i] (Ls k') := by
      cases hw : isW (cls o.op) with
      | false =>
        refine ⟨k, hk, fun j q hj hwj => ?_, ?_⟩
        · rw [← hkS j q hj hwj]
          simp only [List.mem_append, List.mem_singleton]
          constructor
          · rintro (h | h)
            · exact h
            · subst h; rw [ho] at hj; cases hj; rw [hw] at hwj; cases hwj
          · exact .inl
        · have hmd : md o.op = true := by simp only [md, hw, Bool.not_false]
          rw [hmd]
          exact stepV_congr hagree (any_at hok hls hl hv hk hkS (needs_closed hcl) ho hvi hn hneeds hw)
      | true =>
        have hki : k ≤ i := by
          refine Decidable.byContradiction fun h => ?_
          exact hn ((hkS i o ho hw).2 (by omega))
        have before : ∀ (j : Nat) q, all[j]? = some q → isW (cls q.op) = true → j < i → j ∈ S := by
          intro j q hj hwj hji
          rcases hpairs j i q o hji hj ho with hb | hf | ⟨h1, _⟩
          · exact hneeds j hb
          · exfalso
            cases hco : cls o.op <;> cases hcq : cls q.op <;> rw [hco] at hw <;> rw [hcq] at hwj <;> rw [hco, hcq] at hf <;> simp [freeP, isW] at hf hw hwj
          · exfalso
            cases hqo : q.op <;> rw [hqo] at h1 hwj <;> first | (simp [cls, isW] at hwj; done) | (simp [isLS] at h1; done) | skip
            all_goals (cases hoo : o.op <;> rw [hoo] at h1 hw <;> first | (simp [cls, isW] at hw; done) | (simp [isLS] at h1; done) | skip)
        have e : Ls i = Ls k := by
          have := same k (i - k) (by omega) (fun j q h1 h2 h3 => by
            cases hwj : isW (cls q.op)
            · rfl
            · have := (hkS j q h3 hwj).1 (before j q h3 hwj (by omega)); omega)
          rwa [show k + (i - k) = i by omega] at this
        refine ⟨i + 1, by omega, fun j q hj hwj => ?_, ?_⟩
        · simp only [List.mem_append, List.mem_singleton]
          constructor
          · rintro (h | h)
            · have := (hkS j q hj hwj).1 h; omega
            · omega
          · intro h
            by_cases hji : j = i
            · exact .inr hji
            · exact .inl (before j q hj hwj (by omega))
        · have := hv i o vs[i] ho hvi
          rw [e] at this
          exact stepV_congr hagree this
    have := step_sound (Q := Q) (K := wpAny P .any all.toArray Q fuel (listed.setIfInBounds i true)) hΓ hstep hA hH (hd o (List.mem_of_getElem? ho)) (fun a1 w1 β1 e1 e2 e3 _ => by
      refine ih (S ++ [i]) k' _ β1 a1 w1 ?_ (by simp [hsz]) (fun k hk => ?_) (fun k hk => ?_) (fun j hj q hq e he hb => ?_) hk' hkS' (by rw [hps]; exact e1) e2 (hg.trans e3)
      · have := countP_lt (p := fun k => decide (k ∉ S)) (q := fun k => decide (k ∉ S ++ [i])) (l := List.range all.length) (fun x _ hx => by simp at hx ⊢; exact hx.1) ⟨i, by simp [hil], by simpa using hn, by simp⟩
        omega
      · by_cases hki : k = i
        · subst hki
          simp [hsz, hk]
        · rw [Array.getElem?_setIfInBounds_ne (Ne.symm hki), hS k hk]
          simp [hki]
      · rcases List.mem_append.1 hk with h | h
        · exact hSl k h
        · simp at h; omega
      · rcases List.mem_append.1 hj with h | h
        · exact List.mem_append_left _ (hcl j h q hq e he hb)
        · simp at h; subst h
          rw [ho] at hq; cases hq
          exact List.mem_append_left _ (hdep e he hb))
    unfold wpOp
    have hget : all.toArray[i]? = some o := by simpa using ho
    rw [hget]
    simp only
    split
    · rename_i hw; rw [if_pos hw] at this; exact .inl this
    · rename_i hw; rw [if_neg hw] at this; exact this
theorem region_any (hΓ : GammaOk P Γ) (hm : P.follows .mixedOrders = true) {id : Nat} {env env' : Env} {L' : LH} {a : Act} (hok : anyOk all = true) (hd : ∀ o ∈ all, ∀ d, o.dst = some d → d < N)
    (h : ARun P Γ all all env L env' L') (hls : lsOk all env' = true) (hA : RepA N X β w env a) (hH : RepH X β w L)
    (hQ : ∀ a' w' β', RepA N X β' w' env' a' → RepH X β' w' L' → Grow β β' w w' → Q .normal a' w') : (Code.region id all.toArray true).wp P Q a w := by
  obtain ⟨vs, Ls, h2, rfl, h3, rfl, h4⟩ := arun_vals h
  subst h3
  refine wp_region_any hm ?_
  have hH' : RepH X β { w with drawn := w.drawn + 1 } (Ls 0) := hH.same grow_drew_id (fun _ _ => rfl)
  have := any_sound (Q := Q) (N := N) (X := X) hΓ hok hls h2 hd h4 β w hQ all.length [] 0 (Array.replicate all.length false) β a { w with drawn := w.drawn + 1 }
    (Nat.le_trans List.countP_le_length (by simp)) (by simp) (fun i hi => by simp [hi]) (by simp) (by simp) (Nat.zero_le _) (by simp) (hA.grow grow_drew_id) hH' grow_drew_id
  simpa using this
end any
end Go.Ab
namespace Go.Ab
open Go Go.RowKit
set_option linter.unusedVariables false
set_option linter.unusedSimpArgs false
section
variable {P : Program} {Q : Exit → Act → World → Prop} {all : List Oper} {σ : Nat → Nat} {x y : Nat}
inductive LExt (ops : Array Oper) : Nat → Array Bool → List Nat → Prop
  | zero {listed} : LExt ops 0 listed []
  | stop {fuel listed} (h : Region.ready .any ops listed = []) : LExt ops (fuel + 1) listed []
  | cons {fuel listed i π} (h : i ∈ Region.ready .any ops listed) (k : LExt ops fuel (listed.setIfInBounds i true) π) : LExt ops (fuel + 1) listed (i :: π)
theorem any_lext {ops : Array Oper} {fuel : Nat} {listed : Array Bool} {π : List Nat} (h : LExt ops fuel listed π) : ∀ {a : Act} {w : World}, wpAny P .any ops Q fuel listed a w → wpOps P ops Q π a w := by
  induction h with
  | zero => intro a w h; exact h.2
  | stop hr => intro a w h; exact h.1 hr
  | cons hi k ih =>
    intro a w h
    rw [wpOps_cons]
    exact wpOp_mono (fun a w h => ih h) (h.2 _ hi)
theorem lin_lext {ops : Array Oper} : ∀ (fuel t : Nat) (listed : Array Bool), LExt ops fuel listed (Region.linearise.go .any ops fuel t listed [])
  | 0, t, listed => by simp only [Region.linearise.go]; exact .zero
  | fuel + 1, t, listed => by
    simp only [Region.linearise.go]
    change LExt ops (fuel + 1) listed (match (Region.ready .any ops listed)[t % (Region.ready .any ops listed).length]? with
      | some i => Region.linearise.go .any ops fuel (t / (Region.ready .any ops listed).length) (listed.setIfInBounds i true) [i]
      | none => [].reverse)
    cases hi : (Region.ready .any ops listed)[t % (Region.ready .any ops listed).length]? with
    | none =>
      have hnil : Region.ready .any ops listed = [] := by
        cases hr : Region.ready .any ops listed with
        | nil => rfl
        | cons x xs =>
          rw [hr] at hi
          have hlt : t % (x :: xs).length < (x :: xs).length := Nat.mod_lt _ (by simp)
          simp at hi
          simp at hlt
          omega
      exact .stop hnil
    | some i =>
      simp only []
      rw [linearise_go_acc, List.reverse_singleton, List.singleton_append]
      exact .cons (List.mem_of_getElem? hi) (lin_lext fuel _ _)
def verOp (σ : Nat → Nat) (x y : Nat) (o : Oper) (i : Nat) : Oper :=
  { o with after := (o.after.toList.map (fun e => Edge.mk (σ e.on) e.ground) ++ (if i = y then [Edge.mk (σ x) .data] else [])).toArray, guard := o.guard.map fun g => (σ g.1, g.2) }
def ver (σ : Nat → Nat) (x y : Nat) (all : List Oper) : List Oper := (List.range all.length).map fun i => verOp σ x y (all.getD (σ i) default) (σ i)
theorem len_ver : (ver σ x y all).length = all.length := by simp [ver]
theorem ver_get (hinv : ∀ i, σ (σ i) = i) (hlt : ∀ i, i < all.length → σ i < all.length) {i : Nat} {o : Oper} (h : all[i]? = some o) : (ver σ x y all)[σ i]? = some (verOp σ x y o i) := by
  have hi := (List.getElem?_eq_some_iff.1 h).1
  simp only [ver, List.getElem?_map, List.getElem?_range (hlt i hi), Option.map_some, hinv, List.getD_eq_getElem?_getD, h, Option.getD_some]
theorem ver_none (hinv : ∀ i, σ (σ i) = i) (hlt : ∀ i, i < all.length → σ i < all.length) {i : Nat} (h : all[i]? = none) : (ver σ x y all)[σ i]? = none := by
  rw [List.getElem?_eq_none_iff] at h ⊢
  rw [len_ver]
  refine Decidable.byContradiction fun hc => ?_
  have := hlt (σ i) (by omega)
  rw [hinv] at this
  omega
def Rel (σ : Nat → Nat) (l l' : Array Bool) : Prop := ∀ i, l'[σ i]? = l[i]?
theorem Rel.set (hinv : ∀ i, σ (σ i) = i) {l l' : Array Bool} (h : Rel σ l l') (i : Nat) : Rel σ (l.setIfInBounds i true) (l'.setIfInBounds (σ i) true) := by
  intro j
  rw [Array.getElem?_setIfInBounds, Array.getElem?_setIfInBounds]
  have hinj : σ i = σ j ↔ i = j := ⟨fun e => by rw [← hinv i, e, hinv], fun e => by rw [e]⟩
  have hsz : σ i < l'.size ↔ i < l.size := by
    have := h i
    constructor
    · intro hl
      rw [Array.getElem?_eq_getElem hl] at this
      refine Decidable.byContradiction fun hc => ?_
      rw [Array.getElem?_eq_none (by omega)] at this
      cases this
    · intro hl
      rw [Array.getElem?_eq_getElem hl] at this
      refine Decidable.byContradiction fun hc => ?_
      rw [Array.getElem?_eq_none (by omega)] at this
      cases this
  by_cases e : i = j
  · subst e
    simp only [if_true, hsz]
  · rw [if_neg e, if_neg (fun h => e (hinj.1 h)), h j]
theorem ready_iff {ops : List Oper} {listed : Array Bool} {i : Nat} : i ∈ Region.ready .any ops.toArray listed ↔
    ∃ o, ops[i]? = some o ∧ listed[i]? = some false ∧ ∀ e ∈ o.after.toList, Region.binds .any e = true → listed[e.on]? = some true := by
  have g1 : ∀ k : Nat, listed.getD k true = false ↔ listed[k]? = some false := by
    intro k
    rw [Array.getD_eq_getD_getElem?]
    cases listed[k]? with
    | none => simp
    | some b => simp
  have g2 : ∀ k : Nat, listed.getD k false = true ↔ listed[k]? = some true := by
    intro k
    rw [Array.getD_eq_getD_getElem?]
    cases listed[k]? with
    | none => simp
    | some b => simp
  simp only [Region.ready, List.mem_filter, List.mem_range, List.size_toArray, Bool.and_eq_true, Bool.not_eq_true', List.getElem?_toArray]
  constructor
  · rintro ⟨hlt, h1, h2⟩
    have hget := List.getElem?_eq_getElem hlt
    rw [hget] at h2
    simp only [Option.map_some, Option.getD_some] at h2
    refine ⟨ops[i], hget, (g1 i).1 h1, fun e he hb => ?_⟩
    have := (Array.all_eq_true_iff_forall_mem.1 h2) e (by simpa using he)
    rw [hb] at this
    simp only [Bool.not_true, Bool.false_or] at this
    exact (g2 _).1 this
  · rintro ⟨o, ho, h1, h2⟩
    refine ⟨(List.getElem?_eq_some_iff.1 ho).1, (g1 i).2 h1, ?_⟩
    rw [ho]
    simp only [Option.map_some, Option.getD_some]
    refine Array.all_eq_true_iff_forall_mem.2 fun e he => ?_
    cases hb : Region.binds .any e
    · rfl
    · simp only [Bool.not_true, Bool.false_or]
      exact (g2 _).2 (h2 e (by simpa using he) hb)
theorem ready_ver (hinv : ∀ i, σ (σ i) = i) (hlt : ∀ i, i < all.length → σ i < all.length) {l l' : Array Bool} (hr : Rel σ l l') {i : Nat} (h : i ∈ Region.ready .any all.toArray l) (hx : i ≠ y ∨ l[x]? = some true) :
    σ i ∈ Region.ready .any (ver σ x y all).toArray l' := by
  obtain ⟨o, ho, h1, h2⟩ := ready_iff.1 h
  refine ready_iff.2 ⟨_, ver_get hinv hlt ho, by rw [hr i]; exact h1, fun e he hb => ?_⟩
  simp only [verOp, List.mem_append, List.mem_map] at he
  rcases he with ⟨e0, he0, rfl⟩ | he
  · simp only
    rw [hr e0.on]
    exact h2 e0 he0 (by simpa [Region.binds] using hb)
  · split at he
    · rename_i hiy
      rcases hx with hx | hx
      · exact absurd hiy hx
      · simp only [List.mem_singleton] at he
        subst he
        simp only
        rw [hr x]; exact hx
    · simp at he
theorem ready_back (hinv : ∀ i, σ (σ i) = i) (hlt : ∀ i, i < all.length → σ i < all.length) {l l' : Array Bool} (hr : Rel σ l l') {i : Nat} (h : σ i ∈ Region.ready .any (ver σ x y all).toArray l') :
    i ∈ Region.ready .any all.toArray l := by
  obtain ⟨o', ho', h1, h2⟩ := ready_iff.1 h
  cases ho : all[i]? with
  | none => rw [ver_none hinv hlt ho] at ho'; cases ho'
  | some o =>
    rw [ver_get hinv hlt ho] at ho'
    cases ho'
    refine ready_iff.2 ⟨o, ho, by rw [← hr i]; exact h1, fun e he hb => ?_⟩
    have := h2 (Edge.mk (σ e.on) e.ground) (by simp only [verOp, List.mem_append, List.mem_map]; exact .inl ⟨e, he, rfl⟩) (by simpa [Region.binds] using hb)
    simp only at this
    rw [← hr e.on]; exact this
theorem ready_nil_ver (hinv : ∀ i, σ (σ i) = i) (hlt : ∀ i, i < all.length → σ i < all.length) {l l' : Array Bool} (hr : Rel σ l l') (h : Region.ready .any all.toArray l = []) : Region.ready .any (ver σ x y all).toArray l' = [] := by
  rw [List.eq_nil_iff_forall_not_mem]
  intro j hj
  have : σ j ∈ Region.ready .any all.toArray l := ready_back (x := x) (y := y) hinv hlt hr (by rw [hinv]; exact hj)
  rw [h] at this
  cases this
theorem lext_ver (hinv : ∀ i, σ (σ i) = i) (hlt : ∀ i, i < all.length → σ i < all.length) {fuel : Nat} {l : Array Bool} {π : List Nat} (h : LExt all.toArray fuel l π) : ∀ {l' : Array Bool}, Rel σ l l' → l[x]? = some true → LExt (ver σ x y all).toArray fuel l' (π.map σ) := by
  induction h with
  | zero => intro l' _ _; exact .zero
  | stop hr0 => intro l' hr _; exact .stop (ready_nil_ver hinv hlt hr hr0)
  | @cons fuel listed i π hi k ih =>
    intro l' hr hx
    refine .cons (ready_ver hinv hlt hr hi (.inr hx)) (ih (hr.set hinv i) ?_)
    rw [Array.getElem?_setIfInBounds]
    have := Array.getElem?_eq_some_iff.1 hx
    split
    · rename_i e; subst e; simp [this.1]
    · exact hx
theorem lext_split {σ2 : Nat → Nat} {p q : Nat} (h1 : ∀ i, σ (σ i) = i) (h2 : ∀ i, i < all.length → σ i < all.length) (g1 : ∀ i, σ2 (σ2 i) = i) (g2 : ∀ i, i < all.length → σ2 i < all.length) (hne : p ≠ q)
    {fuel : Nat} {l : Array Bool} {π : List Nat} (h : LExt all.toArray fuel l π) : ∀ {l1 l2 : Array Bool}, Rel σ l l1 → Rel σ2 l l2 →
    LExt (ver σ p q all).toArray fuel l1 (π.map σ) ∨ LExt (ver σ2 q p all).toArray fuel l2 (π.map σ2) := by
  induction h with
  | zero => intro l1 l2 _ _; exact .inl .zero
  | stop hr0 => intro l1 l2 r1 _; exact .inl (.stop (ready_nil_ver h1 h2 r1 hr0))
  | @cons fuel listed i π hi k ih =>
    intro l1 l2 r1 r2
    have hin : listed[i]? = some false := by
      obtain ⟨o, _, h, _⟩ := ready_iff.1 hi
      exact h
    have hlt := (Array.getElem?_eq_some_iff.1 hin).1
    have hset : (listed.setIfInBounds i true)[i]? = some true := by
      rw [Array.getElem?_setIfInBounds, if_pos rfl, if_pos hlt]
    by_cases e1 : i = p
    · subst e1
      exact .inl (.cons (ready_ver h1 h2 r1 hi (.inl hne)) (lext_ver h1 h2 k (r1.set h1 i) hset))
    · by_cases e2 : i = q
      · subst e2
        exact .inr (.cons (ready_ver g1 g2 r2 hi (.inl (Ne.symm hne))) (lext_ver g1 g2 k (r2.set g1 i) hset))
      · rcases ih (r1.set h1 i) (r2.set g1 i) with h | h
        · exact .inl (.cons (ready_ver h1 h2 r1 hi (.inl e2)) h)
        · exact .inr (.cons (ready_ver g1 g2 r2 hi (.inl e1)) h)
theorem yielded_ver (hinv : ∀ i, σ (σ i) = i) (hlt : ∀ i, i < all.length → σ i < all.length) (tmps : Array Value) (j : Nat) : yielded (ver σ x y all).toArray tmps (σ j) = yielded all.toArray tmps j := by
  unfold yielded
  simp only [List.getElem?_toArray]
  cases h : all[j]? with
  | none => rw [ver_none hinv hlt h]
  | some o => rw [ver_get hinv hlt h]; rfl
theorem wpOp_ver (hinv : ∀ i, σ (σ i) = i) (hlt : ∀ i, i < all.length → σ i < all.length) {i : Nat} {K : Act → World → Prop} {a : Act} {w : World} (h : wpOp P (ver σ x y all).toArray Q (σ i) K a w) : wpOp P all.toArray Q i K a w := by
  unfold wpOp at *
  simp only [List.getElem?_toArray] at *
  cases ho : all[i]? with
  | none => rw [ver_none hinv hlt ho] at h; exact h
  | some o =>
    rw [ver_get hinv hlt ho] at h
    simp only at h ⊢
    have hw : Region.wanted (verOp σ x y o i) (yielded (ver σ x y all).toArray a.tmps) = Region.wanted o (yielded all.toArray a.tmps) := by
      unfold Region.wanted
      simp only [verOp]
      cases o.guard with
      | none => rfl
      | some g => simp only [Option.map_some, yielded_ver hinv hlt]
    rw [hw] at h
    exact h
theorem wpOps_ver (hinv : ∀ i, σ (σ i) = i) (hlt : ∀ i, i < all.length → σ i < all.length) : ∀ {π : List Nat} {a : Act} {w : World}, wpOps P (ver σ x y all).toArray Q (π.map σ) a w → wpOps P all.toArray Q π a w
  | [], a, w, h => h
  | i :: π, a, w, h => by
    rw [List.map_cons, wpOps_cons] at h
    rw [wpOps_cons]
    exact wpOp_ver hinv hlt (wpOp_mono (fun a w h => wpOps_ver hinv hlt h) h)
def swp (p q i : Nat) : Nat := if i = p then q else if i = q then p else i
theorem swp_inv (p q i : Nat) : swp p q (swp p q i) = i := by
  unfold swp
  repeat' split
  all_goals omega
theorem swp_lt {p q n : Nat} (hp : p < n) (hq : q < n) (i : Nat) (h : i < n) : swp p q i < n := by
  unfold swp
  repeat' split
  all_goals omega
def ver1 (p q : Nat) (all : List Oper) : List Oper := ver (fun i => i) p q all
def ver2 (p q : Nat) (all : List Oper) : List Oper := ver (swp p q) q p all
theorem region_two {id : Nat} {a : Act} {w : World} {p q : Nat} (hm : P.follows .mixedOrders = true) (hne : p ≠ q) (hp : p < all.length) (hq : q < all.length)
    (h1 : wpAny P .any (ver1 p q all).toArray Q all.length (Array.replicate all.length false) a { w with drawn := w.drawn + 1 })
    (h2 : wpAny P .any (ver2 p q all).toArray Q all.length (Array.replicate all.length false) a { w with drawn := w.drawn + 1 }) : (Code.region id all.toArray true).wp P Q a w := by
  refine wp_region_draw fun t => ?_
  simp only [Region.schedule, hm, Bool.true_or, if_true]
  have hl : LExt all.toArray all.length (Array.replicate all.length false) (Region.linearise .any all.toArray t) := by
    have := lin_lext (ops := all.toArray) all.length t (Array.replicate all.length false)
    simpa [Region.linearise] using this
  have r1 : Rel (fun i => i) (Array.replicate all.length false) (Array.replicate all.length false) := fun i => rfl
  have r2 : Rel (swp p q) (Array.replicate all.length false) (Array.replicate all.length false) := by
    intro i
    simp only [Array.getElem?_replicate]
    have hiff : swp p q i < all.length ↔ i < all.length := ⟨fun h => by have := swp_lt hp hq _ h; rwa [swp_inv] at this, swp_lt hp hq i⟩
    simp only [hiff]
  rcases lext_split (p := p) (q := q) (fun _ => rfl) (fun _ h => h) (swp_inv p q) (swp_lt hp hq) hne hl r1 r2 with h | h
  · exact wpOps_ver (x := p) (y := q) (fun _ => rfl) (fun _ h => h) (any_lext h h1)
  · exact wpOps_ver (x := q) (y := p) (swp_inv p q) (swp_lt hp hq) (any_lext h h2)
end
section
variable {P : Program} {Γ : Con} {X : Nat → Prop} {N : Nat} {Q : Exit → Act → World → Prop} {all : List Oper} {β : List Base} {w : World} {L : LH}
theorem mem_ver {σ : Nat → Nat} {x y : Nat} (hlt : ∀ i, i < all.length → σ i < all.length) (hd : ∀ o ∈ all, ∀ d, o.dst = some d → d < N) : ∀ o ∈ ver σ x y all, ∀ d, o.dst = some d → d < N := by
  intro o ho d hod
  simp only [ver, List.mem_map, List.mem_range] at ho
  obtain ⟨i, hi, rfl⟩ := ho
  have hs := hlt i hi
  refine hd (all.getD (σ i) default) ?_ d hod
  rw [List.getD_eq_getElem?_getD, List.getElem?_eq_getElem hs]
  simp
theorem any_start (hΓ : GammaOk P Γ) {env env' : Env} {L' : LH} {a : Act} (hok : anyOk all = true) (hd : ∀ o ∈ all, ∀ d, o.dst = some d → d < N)
    (h : ARun P Γ all all env L env' L') (hls : lsOk all env' = true) (hA : RepA N X β w env a) (hH : RepH X β w L)
    (hQ : ∀ a' w' β', RepA N X β' w' env' a' → RepH X β' w' L' → Grow β β' w w' → Q .normal a' w') : wpAny P .any all.toArray Q all.length (Array.replicate all.length false) a { w with drawn := w.drawn + 1 } := by
  obtain ⟨vs, Ls, h2, rfl, h3, rfl, h4⟩ := arun_vals h
  subst h3
  have hH' : RepH X β { w with drawn := w.drawn + 1 } (Ls 0) := hH.same grow_drew_id (fun _ _ => rfl)
  exact any_sound (Q := Q) (N := N) (X := X) hΓ hok hls h2 hd h4 β w hQ all.length [] 0 (Array.replicate all.length false) β a { w with drawn := w.drawn + 1 }
    (Nat.le_trans List.countP_le_length (by simp)) (by simp) (fun i hi => by simp [hi]) (by simp) (by simp) (Nat.zero_le _) (by simp) (hA.grow grow_drew_id) hH' grow_drew_id
theorem region_two_any (hΓ : GammaOk P Γ) (hm : P.follows .mixedOrders = true) {id : Nat} {env env1 env2 : Env} {L1 L2 : LH} {a : Act} {p q : Nat} (hne : p ≠ q) (hp : p < all.length) (hq : q < all.length) (hd : ∀ o ∈ all, ∀ d, o.dst = some d → d < N)
    (o1 : anyOk (ver1 p q all) = true) (h1 : ARun P Γ (ver1 p q all) (ver1 p q all) env L env1 L1) (s1 : lsOk (ver1 p q all) env1 = true)
    (o2 : anyOk (ver2 p q all) = true) (h2 : ARun P Γ (ver2 p q all) (ver2 p q all) env L env2 L2) (s2 : lsOk (ver2 p q all) env2 = true)
    (hA : RepA N X β w env a) (hH : RepH X β w L)
    (hQ1 : ∀ a' w' β', RepA N X β' w' env1 a' → RepH X β' w' L1 → Grow β β' w w' → Q .normal a' w')
    (hQ2 : ∀ a' w' β', RepA N X β' w' env2 a' → RepH X β' w' L2 → Grow β β' w w' → Q .normal a' w') : (Code.region id all.toArray true).wp P Q a w := by
  have k1 := any_start hΓ o1 (mem_ver (fun _ h => h) hd) h1 s1 hA hH hQ1
  have k2 := any_start hΓ o2 (mem_ver (swp_lt hp hq) hd) h2 s2 hA hH hQ2
  have e1 : (ver1 p q all).length = all.length := len_ver
  have e2 : (ver2 p q all).length = all.length := len_ver
  rw [e1] at k1
  rw [e2] at k2
  exact region_two hm hne hp hq k1 k2
end
end Go.Ab
namespace Go.Ab
open Go Go.RowKit
set_option linter.unusedVariables false
set_option linter.unusedSimpArgs false
variable {P : Program} {Γ : Con} {X : Nat → Prop} {β : List Base} {L : LH} {N : Nat}
structure WGrow (n : Nat) (β β' : List Base) (w w' : World) : Prop where
  os : w'.os = w.os
  tape : w'.tape = w.tape
  output : w'.output = w.output
  size : w.heap.size ≤ w'.heap.size
  block : ∀ k, k < w.heap.size → ¬ Live β k → w'.heap[k]? = w.heap[k]?
  shape : ∀ (k : Nat) c el fr, w.heap[k]? = some (.cells c el fr) → ∃ c' fr', w'.heap[k]? = some (.cells c' el fr') ∧ c'.size = c.size
  live : ∀ b, Live β' b → Live β b ∨ w.heap.size ≤ b
  len : n ≤ β.length → n ≤ β'.length
  keep : n ≤ β.length → ∀ (i : Nat) x, i < n → β'[i]? = some x → x ≠ .dead → β[i]? = some x
theorem Grow.wg {n : Nat} {β' : List Base} {w w' : World} (g : Grow β β' w w') : WGrow n β β' w w' := ⟨g.os, g.tape, g.output, g.size, g.block, g.shape, g.live, fun h => Nat.le_trans h g.len, fun h i x hi hx hd => g.keep i x (Nat.lt_of_lt_of_le hi h) hx hd⟩
theorem WGrow.refl {n : Nat} (β : List Base) (w : World) : WGrow n β β w w := (Grow.refl β w).wg
theorem WGrow.trans {n : Nat} {β β' β'' : List Base} {w w' w'' : World} (h : WGrow n β β' w w') (k : WGrow n β' β'' w' w'') : WGrow n β β'' w w'' where
  len := fun e => k.len (h.len e)
  keep := fun e i x hi hx hd => h.keep e i x hi (k.keep (h.len e) i x hi hx hd) hd
  os := k.os.trans h.os
  tape := k.tape.trans h.tape
  output := k.output.trans h.output
  size := Nat.le_trans h.size k.size
  block := fun i hi hl => (k.block i (Nat.lt_of_lt_of_le hi h.size) (fun hb => by rcases h.live i hb with x | x; exact hl x; omega)).trans (h.block i hi hl)
  shape := fun i c el fr hi => by
    obtain ⟨c', fr', h1, h2⟩ := h.shape i c el fr hi
    obtain ⟨c'', fr'', h3, h4⟩ := k.shape i c' el fr' h1
    exact ⟨c'', fr'', h3, h4.trans h2⟩
  live := fun b hb => by
    rcases k.live b hb with x | x
    · exact h.live b x
    · exact .inr (Nat.le_trans h.size x)
def RenOk (m : List Nat) (p q : PV) : Prop :=
  q = .any ∨ (closed p = true ∧ q = p) ∨ (∃ id k off n sz, p = .own id off n sz ∧ m[k]? = some id ∧ q = .own k off n sz) ∨ (∃ id k off, p = .ptr id off ∧ m[k]? = some id ∧ q = .ptr k off)
structure Weak (n : Nat) (m : List Nat) (env : Env) (L : LH) (env2 : Env) (L2 : LH) : Prop where
  pins : ∀ i, i < n → m[i]? = some i
  nodup : m.Nodup
  bound : ∀ i ∈ m, i < L.length
  len : L2.length = m.length
  rows : ∀ (k i : Nat) cs, m[k]? = some i → L2[k]? = some (.cells cs) → L[i]? = some (.cells cs) ∧ closedL cs = true
  env : ∀ x ∈ env2, lookup env2 x.1 = x.2 → RenOk m (lookup env x.1) x.2
theorem lookup_cases (env : Env) (t : Nat) : lookup env t = .any ∨ (t, lookup env t) ∈ env := by
  induction env with
  | nil => exact .inl rfl
  | cons x r ih =>
    obtain ⟨i, p⟩ := x
    simp only [lookup]
    cases hb : (i == t) with
    | true =>
      have := eq_of_beq hb
      subst this
      right; simp
    | false =>
      simp only [cond_false]
      rcases ih with h | h
      · exact .inl h
      · exact .inr (List.mem_cons_of_mem _ h)
theorem weak_sound {n : Nat} {w : World} {m : List Nat} {env env2 : Env} {L2 : LH} {a : Act} (h : Weak n m env L env2 L2) (hA : RepA N X β w env a) (hH : RepH X β w L) :
    ∃ β2, RepA N X β2 w env2 a ∧ RepH X β2 w L2 ∧ WGrow n β β2 w w := by
  let β2 : List Base := m.map fun i => β.getD i .dead
  have hget : ∀ (k i : Nat), m[k]? = some i → β2[k]? = β[i]? := by
    intro k i hk
    have hi : i < β.length := by rw [hH.len]; exact h.bound i (List.mem_of_getElem? hk)
    simp only [β2, List.getElem?_map, hk, Option.map_some]
    simp [hi]
  have hget' : ∀ (k : Nat) x, β2[k]? = some x → ∃ i, m[k]? = some i ∧ β[i]? = some x := by
    intro k x hk
    have hlt : k < m.length := by
      have := (List.getElem?_eq_some_iff.1 hk).1
      simpa [β2] using this
    refine ⟨m[k], by simp [hlt], ?_⟩
    rw [← hget k m[k] (by simp [hlt])]; exact hk
  have hlive : ∀ b, Live β2 b → Live β b := by
    rintro b ⟨k, base, hk⟩
    obtain ⟨i, h1, h2⟩ := hget' k _ hk
    exact ⟨i, base, h2⟩
  have hanti : ∀ b, X b ∨ Live β2 b → X b ∨ Live β b := fun b hb => hb.imp id (hlive b)
  have hval : ∀ p q v, RenOk m p q → RepV X β w p v → RepV X β2 w q v := by
    intro p q v hr hp
    rcases hr with rfl | ⟨hc, rfl⟩ | ⟨id, k, off, n, sz, rfl, hk, rfl⟩ | ⟨id, k, off, rfl, hk, rfl⟩
    · simp [RepV]
    · exact RepV.anti hanti _ v hc hp
    · simp only [RepV] at hp ⊢
      have hkl : k < β2.length := by simp only [β2, List.length_map]; exact (List.getElem?_eq_some_iff.1 hk).1
      refine ⟨hkl, fun b base hb => ?_, fun hb => ?_⟩
      · rw [hget k id hk] at hb; exact hp.2.1 b base hb
      · rw [hget k id hk] at hb; exact hp.2.2 hb
    · simp only [RepV] at hp ⊢
      have hkl : k < β2.length := by simp only [β2, List.length_map]; exact (List.getElem?_eq_some_iff.1 hk).1
      refine ⟨hkl, fun b base hb => ?_, fun hb => ?_⟩
      · rw [hget k id hk] at hb; exact hp.2.1 b base hb
      · rw [hget k id hk] at hb; exact hp.2.2 hb
  refine ⟨β2, ⟨hA.size, hA.defers, fun t => ?_, hA.glob.anti hanti⟩, ?_, ⟨rfl, rfl, rfl, Nat.le_refl _, fun _ _ _ => rfl, fun k c el fr h => ⟨c, fr, h, rfl⟩, fun b hb => .inl (hlive b hb), fun _ => by
      have : n ≤ m.length := by
        by_cases h0 : n = 0
        · omega
        · have := (List.getElem?_eq_some_iff.1 (h.pins (n - 1) (by omega))).1; omega
      simpa [β2] using this, fun _ i x hi hx _ => by rw [hget i i (h.pins i hi)] at hx; exact hx⟩⟩
  · rcases lookup_cases env2 t with ht | ht
    · rw [ht]; simp [RepV]
    · exact hval _ _ _ (h.env _ ht rfl) (hA.slot t)
  · refine ⟨by simp [β2, h.len], ?_, fun b hb => hH.lt b (hlive b hb), fun b hb => ⟨(hH.out b hb).1, fun hl => (hH.out b hb).2 (hlive b hl)⟩, ?_⟩
    · intro i j b x y hi hj
      obtain ⟨i', h1, h2⟩ := hget' i _ hi
      obtain ⟨j', h3, h4⟩ := hget' j _ hj
      have := hH.inj i' j' b x y h2 h4
      subst this
      have hil := (List.getElem?_eq_some_iff.1 h1).1
      exact (List.getElem_inj h.nodup (h₀ := hil) (h₁ := (List.getElem?_eq_some_iff.1 h3).1)).1 (by
        rw [(List.getElem?_eq_some_iff.1 h1).2, (List.getElem?_eq_some_iff.1 h3).2])
    · intro k cs hk
      have hkl : k < m.length := by rw [← h.len]; exact (List.getElem?_eq_some_iff.1 hk).1
      have hmk : m[k]? = some m[k] := by simp [hkl]
      obtain ⟨h1, h2⟩ := h.rows k m[k] cs hmk hk
      rcases hH.ent m[k] cs h1 with ⟨e1, e2⟩ | ⟨b, base, c, el, e1, e2, e3, e4⟩
      · exact .inl ⟨by rw [hget k _ hmk]; exact e1, e2⟩
      · exact .inr ⟨b, base, c, el, by rw [hget k _ hmk]; exact e1, e2, e3, RepRow.anti hanti b cs base h2 e4⟩
inductive Run (P : Program) (Γ : Con) : Code → Env → LH → Exit → Env → LH → Prop
  | skip {env L} : Run P Γ .skip env L .normal env L
  | region {id ops env L env' L'} (h : LRun P Γ ops.toList ops.toList env L env' L') : Run P Γ (.region id ops false) env L .normal env' L'
  | regionDraw {id ops env L env' L'} (h : TRun P Γ true ops.toList ops.toList env L env' L') (hd : drawOk ops.toList = true) : Run P Γ (.region id ops true) env L .normal env' L'
  | regionTail {id ops m env L env1 L1 env' L'} (h : TRun P Γ true ops.toList (ops.toList.take m) env L env1 L1) (h2 : LRun P Γ ops.toList (ops.toList.drop m) env1 L1 env' L') (hd : drawOk ops.toList = true) (ht : tailOk ops.toList m = true) : Run P Γ (.region id ops true) env L .normal env' L'
  | regionAny {id ops env L env' L'} (h : ARun P Γ ops.toList ops.toList env L env' L') (hd : anyOk ops.toList = true) (hs : lsOk ops.toList env' = true) : Run P Γ (.region id ops true) env L .normal env' L'
  | regionTwo {id ops p q m env L env1 L1 env2 L2} (hne : p ≠ q) (hp : p < ops.toList.length) (hq : q < ops.toList.length)
      (h1 : ARun P Γ (ver1 p q ops.toList) (ver1 p q ops.toList) env L env1 L1) (o1 : anyOk (ver1 p q ops.toList) = true) (s1 : lsOk (ver1 p q ops.toList) env1 = true)
      (h2 : ARun P Γ (ver2 p q ops.toList) (ver2 p q ops.toList) env L env2 L2) (o2 : anyOk (ver2 p q ops.toList) = true) (s2 : lsOk (ver2 p q ops.toList) env2 = true)
      (hw : Weak Γ.pin m env2 L2 env1 L1) : Run P Γ (.region id ops true) env L .normal env1 L1
  | less {c env L env2 e env' L'} (hl : ∀ t, lookup env2 t = .any ∨ lookup env2 t = lookup env t) (h : Run P Γ c env2 L e env' L') : Run P Γ c env L e env' L'
  | scope {c env L e env' L'} (h : Run P Γ c env L e env' L') (he : ∀ l, e ≠ .goto l) : Run P Γ (.scope c) env L e env' L'
  | label {l env L} : Run P Γ (.label l) env L .normal env L
  | seq {x y env L env1 L1 e env' L'} (h : Run P Γ x env L .normal env1 L1) (k : Run P Γ y env1 L1 e env' L') : Run P Γ (.seq x y) env L e env' L'
  | seqOut {x y env L e env' L'} (h : Run P Γ x env L e env' L') (he : e ≠ .normal) : Run P Γ (.seq x y) env L e env' L'
  | cond {c x y env L t e env' L'} (hc : evalIn env c = .lit (.bool t)) (h : Run P Γ (if t then x else y) env L e env' L') : Run P Γ (.cond c x y) env L e env' L'
  | block {id c env L e env' L'} (h : Run P Γ c env L e env' L') (he : e ≠ .exit id) : Run P Γ (.block id c) env L e env' L'
  | blockOut {id c env L env' L'} (h : Run P Γ c env L (.exit id) env' L') : Run P Γ (.block id c) env L .normal env' L'
  | loop {c env L env1 L1 e env' L'} (h : Run P Γ c env L .normal env1 L1) (k : Run P Γ (.loop c) env1 L1 e env' L') : Run P Γ (.loop c) env L e env' L'
  | loopOut {c env L e env' L'} (h : Run P Γ c env L e env' L') (he : e ≠ .normal) : Run P Γ (.loop c) env L e env' L'
  | exit {id env L} : Run P Γ (.exit id) env L (.exit id) env L
  | ret {env L} : Run P Γ .ret env L .ret env L
  | weak {c env L m env2 L2 e env' L'} (hw : Weak Γ.pin m env L env2 L2) (h : Run P Γ c env2 L2 e env' L') : Run P Γ c env L e env' L'
  | after {c env L m env2 L2 e env' L'} (h : Run P Γ c env L e env' L') (hw : Weak Γ.pin m env' L' env2 L2) : Run P Γ c env L e env2 L2
def fits (N : Nat) : Code → Bool
  | .region _ ops _ => ops.toList.all fun o => match o.dst with | some d => decide (d < N) | none => true
  | .seq a b => fits N a && fits N b
  | .cond _ a b => fits N a && fits N b
  | .block _ c => fits N c
  | .loop c => fits N c
  | .rangeFunc _ _ a b => fits N a && fits N b
  | .scope c => fits N c
  | _ => true
def Post (n N : Nat) (X : Nat → Prop) (β : List Base) (w : World) (e : Exit) (env' : Env) (L' : LH) : Exit → Act → World → Prop :=
  fun e' a' w' => e' = e ∧ ∃ β', RepA N X β' w' env' a' ∧ RepH X β' w' L' ∧ WGrow n β β' w w'
theorem rounds_mono {c : Code} {Q Q' : Exit → Act → World → Prop} (hq : ∀ e a w, Q e a w → Q' e a w) : ∀ (n : Nat) (a : Act) (w : World), Code.rounds P c Q n a w → Code.rounds P c Q' n a w
  | 0, _, _, h => h.elim
  | n + 1, a, w, h => by
    rw [rounds_succ] at h ⊢
    refine wp_mono h fun e a' w' he => ?_
    cases e with
    | normal => exact rounds_mono hq n a' w' he
    | _ => exact hq _ _ _ he
theorem Post.mono {n : Nat} {β1 : List Base} {w w1 : World} {e e' : Exit} {env' : Env} {L' : LH} {a' : Act} {w' : World} (g : WGrow n β β1 w w1) (h : Post n N X β1 w1 e env' L' e' a' w') : Post n N X β w e env' L' e' a' w' := by
  obtain ⟨h1, β', h2, h3, h4⟩ := h
  exact ⟨h1, β', h2, h3, g.trans h4⟩
theorem Run.sound (hΓ : GammaOk P Γ) (hm : P.follows .mixedOrders = true) {c : Code} {env env' : Env} {L L' : LH} {e : Exit} (h : Run P Γ c env L e env' L') :
    (∀ (N : Nat) (X : Nat → Prop) (β : List Base) (w : World) (a : Act), fits N c = true → RepA N X β w env a → RepH X β w L → c.wp P (Post Γ.pin N X β w e env' L') a w) ∧
    (∀ d, c = .loop d → ∃ n, ∀ (N : Nat) (X : Nat → Prop) (β : List Base) (w : World) (a : Act), fits N c = true → RepA N X β w env a → RepH X β w L → Code.rounds P d (Post Γ.pin N X β w e env' L') n a w) := by
  induction h with
  | skip => exact ⟨fun N X β w a _ hA hH => wp_skip ⟨rfl, β, hA, hH, WGrow.refl β w⟩, fun d hd => by cases hd⟩
  | @region id ops env L env' L' h =>
    refine ⟨fun N X β w a hf hA hH => ?_, fun d hd => by cases hd⟩
    have hfit : ∀ o ∈ ops.toList, ∀ d, o.dst = some d → d < N := by
      intro o ho d hod
      have := List.all_eq_true.1 hf o ho
      simpa [hod] using this
    exact wp_region_list (lrun_sound hΓ h hA hH hfit (fun a' w' β' h1 h2 h3 => ⟨rfl, β', h1, h2, h3.wg⟩))
  | @regionDraw id ops env L env' L' h hd =>
    refine ⟨fun N X β w a hf hA hH => ?_, fun d hd => by cases hd⟩
    have hfit : ∀ o ∈ ops.toList, ∀ d, o.dst = some d → d < N := by
      intro o ho d hod
      have := List.all_eq_true.1 hf o ho
      simpa [hod] using this
    exact region_draw (all := ops.toList) hΓ hm hd hfit h hA hH (fun a' w' h1 h2 h3 => ⟨rfl, β, h1, h2, h3.wg⟩)
  | @regionTail id ops m env L env1 L1 env' L' h h2 hd ht =>
    refine ⟨fun N X β w a hf hA hH => ?_, fun d hd => by cases hd⟩
    have hfit : ∀ o ∈ ops.toList, ∀ d, o.dst = some d → d < N := by
      intro o ho d hod
      have := List.all_eq_true.1 hf o ho
      simpa [hod] using this
    exact region_tail (all := ops.toList) hΓ hm hd ht hfit h h2 hA hH (fun a' w' β' h1 h2 h3 => ⟨rfl, β', h1, h2, h3.wg⟩)
  | @regionAny id ops env L env' L' h hd hs =>
    refine ⟨fun N X β w a hf hA hH => ?_, fun d hd => by cases hd⟩
    have hfit : ∀ o ∈ ops.toList, ∀ d, o.dst = some d → d < N := by
      intro o ho d hod
      have := List.all_eq_true.1 hf o ho
      simpa [hod] using this
    exact region_any (all := ops.toList) hΓ hm hd hfit h hs hA hH (fun a' w' β' h1 h2 h3 => ⟨rfl, β', h1, h2, h3.wg⟩)
  | @regionTwo id ops p q m env L env1 L1 env2 L2 hne hp hq h1 o1 s1 h2 o2 s2 hw =>
    refine ⟨fun N X β w a hf hA hH => ?_, fun d hd => by cases hd⟩
    have hfit : ∀ o ∈ ops.toList, ∀ d, o.dst = some d → d < N := by
      intro o ho d hod
      have := List.all_eq_true.1 hf o ho
      simpa [hod] using this
    refine region_two_any (all := ops.toList) hΓ hm hne hp hq hfit o1 h1 s1 o2 h2 s2 hA hH (fun a' w' β' g1 g2 g3 => ⟨rfl, β', g1, g2, g3.wg⟩) (fun a' w' β' g1 g2 g3 => ?_)
    obtain ⟨β2, k1, k2, k3⟩ := weak_sound hw g1 g2
    exact ⟨rfl, β2, k1, k2, g3.wg.trans k3⟩
  | @less c env L env2 e env' L' hl h ih =>
    have hA' : ∀ {N : Nat} {X : Nat → Prop} {β : List Base} {w : World} {a : Act}, RepA N X β w env a → RepA N X β w env2 a := by
      intro N X β w a hA
      refine ⟨hA.size, hA.defers, fun t => ?_, hA.glob⟩
      rcases hl t with h | h
      · rw [h]; simp [RepV]
      · rw [h]; exact hA.slot t
    refine ⟨fun N X β w a hf hA hH => ih.1 N X β w a hf (hA' hA) hH, fun d hd => ?_⟩
    obtain ⟨n, hn⟩ := ih.2 d hd
    exact ⟨n, fun N X β w a hf hA hH => hn N X β w a hf (hA' hA) hH⟩
  | @scope c env L e env' L' h he ih =>
    refine ⟨fun N X β w a hf hA hH => ?_, fun d hd => by cases hd⟩
    refine wp_scope_straight (wp_mono (ih.1 N X β w a hf hA hH) fun e1 a1 w1 he1 => ?_)
    obtain ⟨rfl, hp⟩ := he1
    cases e1 <;> first | (exact absurd rfl (he _)) | (exact ⟨rfl, hp⟩)
  | label => exact ⟨fun N X β w a _ hA hH => wp_label ⟨rfl, β, hA, hH, WGrow.refl β w⟩, fun d hd => by cases hd⟩
  | @seq x y env L env1 L1 e env' L' h k ih1 ih2 =>
    refine ⟨fun N X β w a hf hA hH => ?_, fun d hd => by cases hd⟩
    simp only [fits, Bool.and_eq_true] at hf
    refine wp_seq (wp_mono (ih1.1 N X β w a hf.1 hA hH) fun e1 a1 w1 he => ?_)
    obtain ⟨rfl, β1, h1, h2, h3⟩ := he
    exact wp_mono (ih2.1 N X β1 w1 a1 hf.2 h1 h2) fun e2 a2 w2 he => he.mono h3
  | @seqOut x y env L e env' L' h he ih =>
    refine ⟨fun N X β w a hf hA hH => ?_, fun d hd => by cases hd⟩
    simp only [fits, Bool.and_eq_true] at hf
    refine wp_seq (wp_mono (ih.1 N X β w a hf.1 hA hH) fun e1 a1 w1 he1 => ?_)
    obtain ⟨rfl, hp⟩ := he1
    cases e1 <;> first | (exact absurd rfl he) | (exact ⟨rfl, hp⟩)
  | @cond c x y env L t e env' L' hc h ih =>
    refine ⟨fun N X β w a hf hA hH => ?_, fun d hd => by cases hd⟩
    simp only [fits, Bool.and_eq_true] at hf
    have hcv := hA.eval c
    rw [hc] at hcv
    simp only [RepV] at hcv
    refine wp_cond hcv (ih.1 N X β w a ?_ hA hH)
    cases t
    · exact hf.2
    · exact hf.1
  | @block id c env L e env' L' h he ih =>
    refine ⟨fun N X β w a hf hA hH => ?_, fun d hd => by cases hd⟩
    refine wp_block (wp_mono (ih.1 N X β w a hf hA hH) fun e1 a1 w1 he1 => ?_)
    obtain ⟨rfl, hp⟩ := he1
    cases e1 with
    | exit id' =>
      have hne : id' ≠ id := fun h => he (by rw [h])
      simp only [Exit.inBlock, hne, if_false]
      exact ⟨rfl, hp⟩
    | _ => exact ⟨rfl, hp⟩
  | @blockOut id c env L env' L' h ih =>
    refine ⟨fun N X β w a hf hA hH => ?_, fun d hd => by cases hd⟩
    refine wp_block (wp_mono (ih.1 N X β w a hf hA hH) fun e1 a1 w1 he1 => ?_)
    obtain ⟨rfl, hp⟩ := he1
    simp only [Exit.inBlock, if_true]
    exact ⟨rfl, hp⟩
  | @loop c env L env1 L1 e env' L' h k ih1 ih2 =>
    have key : ∃ n, ∀ (N : Nat) (X : Nat → Prop) (β : List Base) (w : World) (a : Act), fits N (.loop c) = true → RepA N X β w env a → RepH X β w L → Code.rounds P c (Post Γ.pin N X β w e env' L') n a w := by
      obtain ⟨n, hn⟩ := ih2.2 c rfl
      refine ⟨n + 1, fun N X β w a hf hA hH => ?_⟩
      rw [rounds_succ]
      refine wp_mono (ih1.1 N X β w a hf hA hH) fun e1 a1 w1 he => ?_
      obtain ⟨rfl, β1, h1, h2, h3⟩ := he
      exact rounds_mono (fun e2 a2 w2 he => he.mono h3) n a1 w1 (hn N X β1 w1 a1 hf h1 h2)
    refine ⟨fun N X β w a hf hA hH => ?_, fun d hd => by cases hd; exact key⟩
    obtain ⟨n, hn⟩ := key
    exact wp_loop_rounds n (hn N X β w a hf hA hH)
  | @loopOut c env L e env' L' h he ih =>
    have key : ∀ (N : Nat) (X : Nat → Prop) (β : List Base) (w : World) (a : Act), fits N (.loop c) = true → RepA N X β w env a → RepH X β w L → Code.rounds P c (Post Γ.pin N X β w e env' L') 1 a w := by
      intro N X β w a hf hA hH
      rw [rounds_succ]
      refine wp_mono (ih.1 N X β w a hf hA hH) fun e1 a1 w1 he1 => ?_
      obtain ⟨rfl, hp⟩ := he1
      cases e1 <;> first | (exact absurd rfl he) | (exact ⟨rfl, hp⟩)
    exact ⟨fun N X β w a hf hA hH => wp_loop_rounds 1 (key N X β w a hf hA hH), fun d hd => by cases hd; exact ⟨1, key⟩⟩
  | exit => exact ⟨fun N X β w a _ hA hH => wp_exit ⟨rfl, β, hA, hH, WGrow.refl β w⟩, fun d hd => by cases hd⟩
  | ret => exact ⟨fun N X β w a _ hA hH => wp_ret ⟨rfl, β, hA, hH, WGrow.refl β w⟩, fun d hd => by cases hd⟩
  | @weak c env L m env2 L2 e env' L' hw h ih =>
    refine ⟨fun N X β w a hf hA hH => ?_, fun d hd => ?_⟩
    · obtain ⟨β2, h1, h2, h3⟩ := weak_sound hw hA hH
      exact wp_mono (ih.1 N X β2 w a hf h1 h2) fun e2 a2 w2 he => he.mono h3
    · obtain ⟨n, hn⟩ := ih.2 d hd
      refine ⟨n, fun N X β w a hf hA hH => ?_⟩
      obtain ⟨β2, h1, h2, h3⟩ := weak_sound hw hA hH
      exact rounds_mono (fun e2 a2 w2 he => he.mono h3) n a w (hn N X β2 w a hf h1 h2)
  | @after c env L m env2 L2 e env' L' h hw ih =>
    have hp : ∀ (N : Nat) (X : Nat → Prop) (β : List Base) (w : World) (e1 : Exit) (a1 : Act) (w1 : World), Post Γ.pin N X β w e env' L' e1 a1 w1 → Post Γ.pin N X β w e env2 L2 e1 a1 w1 := by
      rintro N X β w e1 a1 w1 ⟨rfl, β1, h1, h2, h3⟩
      obtain ⟨β2, h4, h5, h6⟩ := weak_sound hw h1 h2
      exact ⟨rfl, β2, h4, h5, h3.trans h6⟩
    refine ⟨fun N X β w a hf hA hH => wp_mono (ih.1 N X β w a hf hA hH) (hp N X β w), fun d hd => ?_⟩
    obtain ⟨n, hn⟩ := ih.2 d hd
    exact ⟨n, fun N X β w a hf hA hH => rounds_mono (hp N X β w) n a w (hn N X β w a hf hA hH)⟩
def Ex (P : Program) (Γ : Con) (c : Code) (env : Env) (L : LH) (Q : Exit → Env → LH → Prop) : Prop := ∃ e env' L', Run P Γ c env L e env' L' ∧ Q e env' L'
theorem Ex.mono {c : Code} {env : Env} {Q Q' : Exit → Env → LH → Prop} (h : Ex P Γ c env L Q) (hq : ∀ e env L, Q e env L → Q' e env L) : Ex P Γ c env L Q' :=
  let ⟨e, env', L', h1, h2⟩ := h; ⟨e, env', L', h1, hq _ _ _ h2⟩
theorem Ex.weak {c : Code} {env env2 : Env} {L2 : LH} {Q : Exit → Env → LH → Prop} (m : List Nat) (hw : Weak Γ.pin m env L env2 L2) (h : Ex P Γ c env2 L2 Q) : Ex P Γ c env L Q :=
  let ⟨e, env', L', h1, h2⟩ := h; ⟨e, env', L', .weak hw h1, h2⟩
theorem Ex.loop {ι : Type} {c : Code} {Q : Exit → Env → LH → Prop} (I : ι → Env × LH) (μ : ι → Nat)
    (step : ∀ x, Ex P Γ c (I x).1 (I x).2 (fun e env' L' => match e with
      | .normal => ∃ y m, μ y < μ x ∧ Weak Γ.pin m env' L' (I y).1 (I y).2
      | e => Q e env' L')) (x : ι) : Ex P Γ (.loop c) (I x).1 (I x).2 Q := by
  have key : ∀ n x, μ x = n → Ex P Γ (.loop c) (I x).1 (I x).2 Q := by
    intro n
    induction n using Nat.strongRecOn with
    | _ n ih =>
      intro x hx
      obtain ⟨e, env', L', h1, h2⟩ := step x
      cases e with
      | normal =>
        obtain ⟨y, m, hy, hw⟩ := h2
        obtain ⟨e, env2, L2, h3, h4⟩ := ih (μ y) (hx ▸ hy) y rfl
        exact ⟨e, env2, L2, .loop h1 (.weak hw h3), h4⟩
      | exit id => exact ⟨_, env', L', .loopOut h1 (by simp), h2⟩
      | goto l => exact ⟨_, env', L', .loopOut h1 (by simp), h2⟩
      | ret => exact ⟨_, env', L', .loopOut h1 (by simp), h2⟩
      | panic ch => exact ⟨_, env', L', .loopOut h1 (by simp), h2⟩
      | outgrown => exact ⟨_, env', L', .loopOut h1 (by simp), h2⟩
  exact key _ x rfl
def lOps (P : Program) (Γ : Con) (all ops : List Oper) (env : Env) (L : LH) (k : Env → LH → Prop) : Prop := ∃ env' L', LRun P Γ all ops env L env' L' ∧ k env' L'
def dOps (P : Program) (Γ : Con) (all ops : List Oper) (env : Env) (L : LH) (k : Env → LH → Prop) : Prop := ∃ env' L', TRun P Γ true all ops env L env' L' ∧ k env' L'
def vC (P : Program) (Γ : Con) (c : Code) (env : Env) (L : LH) (k : Exit → Env → LH → Prop) : Prop := Ex P Γ c env L k
theorem vC_sound {c : Code} {env : Env} {L : LH} {k : Exit → Env → LH → Prop} (h : vC P Γ c env L k) : Ex P Γ c env L k := h
def seqC (P : Program) (Γ : Con) (y : Code) (k : Exit → Env → LH → Prop) : Exit → Env → LH → Prop := fun e env L => match e with
  | .normal => vC P Γ y env L k
  | e => k e env L
def blockC (id : Nat) (k : Exit → Env → LH → Prop) : Exit → Env → LH → Prop := fun e env L => match e with
  | .exit id' => if id' = id then k .normal env L else k (.exit id') env L
  | e => k e env L
def scopeC (k : Exit → Env → LH → Prop) : Exit → Env → LH → Prop := fun e env L => match e with
  | .goto _ => False
  | e => k e env L
section
variable {env : Env} {L : LH} {k : Exit → Env → LH → Prop}
theorem vC_skip (h : k .normal env L) : vC P Γ .skip env L k := ⟨_, _, _, .skip, h⟩
theorem vC_exit {id : Nat} (h : k (.exit id) env L) : vC P Γ (.exit id) env L k := ⟨_, _, _, .exit, h⟩
theorem vC_ret (h : k .ret env L) : vC P Γ .ret env L k := ⟨_, _, _, .ret, h⟩
theorem vC_label {l : Nat} (h : k .normal env L) : vC P Γ (.label l) env L k := ⟨_, _, _, .label, h⟩
theorem vC_loop {c : Code} (h : Ex P Γ (.loop c) env L k) : vC P Γ (.loop c) env L k := h
theorem vC_region0 {id : Nat} {ops : Array Oper} (h : lOps P Γ ops.toList ops.toList env L (k .normal)) : vC P Γ (.region id ops false) env L k := by
  obtain ⟨env', L', h3, h4⟩ := h
  exact ⟨_, _, _, .region h3, h4⟩
theorem vC_any0 {id : Nat} {ops : Array Oper} (h : ∃ env' L', ARun P Γ ops.toList ops.toList env L env' L' ∧ anyOk ops.toList = true ∧ lsOk ops.toList env' = true ∧ k .normal env' L') : vC P Γ (.region id ops true) env L k := by
  obtain ⟨env', L', h1, h2, h3, h4⟩ := h
  exact ⟨_, _, _, .regionAny h1 h2 h3, h4⟩
theorem vC_seq {x y : Code} (h : vC P Γ x env L (seqC P Γ y k)) : vC P Γ (.seq x y) env L k := by
  obtain ⟨e, env1, L1, h1, h2⟩ := h
  cases e with
  | normal =>
    obtain ⟨e, env2, L2, h3, h4⟩ := (show Ex P Γ y env1 L1 k from h2)
    exact ⟨_, _, _, .seq h1 h3, h4⟩
  | exit id => exact ⟨_, _, _, .seqOut h1 (by simp), h2⟩
  | goto l => exact ⟨_, _, _, .seqOut h1 (by simp), h2⟩
  | ret => exact ⟨_, _, _, .seqOut h1 (by simp), h2⟩
  | panic ch => exact ⟨_, _, _, .seqOut h1 (by simp), h2⟩
  | outgrown => exact ⟨_, _, _, .seqOut h1 (by simp), h2⟩
theorem vC_cond {c : Operand} {x y : Code} {t : Bool} (hc : evalIn env c = .lit (.bool t)) (ht : t = true → vC P Γ x env L k) (hf : t = false → vC P Γ y env L k) : vC P Γ (.cond c x y) env L k := by
  cases t with
  | true =>
    obtain ⟨e, env1, L1, h1, h2⟩ := ht rfl
    exact ⟨_, _, _, .cond hc h1, h2⟩
  | false =>
    obtain ⟨e, env1, L1, h1, h2⟩ := hf rfl
    exact ⟨_, _, _, .cond hc h1, h2⟩
theorem vC_block {id : Nat} {c : Code} (h : vC P Γ c env L (blockC id k)) : vC P Γ (.block id c) env L k := by
  obtain ⟨e, env1, L1, h1, h2⟩ := h
  cases e with
  | exit id' =>
    by_cases hid : id' = id
    · subst hid
      simp only [blockC, if_true] at h2
      exact ⟨_, _, _, .blockOut h1, h2⟩
    · simp only [blockC, hid, if_false] at h2
      exact ⟨_, _, _, .block h1 (by simpa using hid), h2⟩
  | normal => exact ⟨_, _, _, .block h1 (by simp), h2⟩
  | goto l => exact ⟨_, _, _, .block h1 (by simp), h2⟩
  | ret => exact ⟨_, _, _, .block h1 (by simp), h2⟩
  | panic ch => exact ⟨_, _, _, .block h1 (by simp), h2⟩
  | outgrown => exact ⟨_, _, _, .block h1 (by simp), h2⟩
theorem vC_scope {c : Code} (h : vC P Γ c env L (scopeC k)) : vC P Γ (.scope c) env L k := by
  obtain ⟨e, env1, L1, h1, h2⟩ := h
  cases e with
  | goto l => exact h2.elim
  | normal => exact ⟨_, _, _, .scope h1 (by simp), h2⟩
  | exit id => exact ⟨_, _, _, .scope h1 (by simp), h2⟩
  | ret => exact ⟨_, _, _, .scope h1 (by simp), h2⟩
  | panic ch => exact ⟨_, _, _, .scope h1 (by simp), h2⟩
  | outgrown => exact ⟨_, _, _, .scope h1 (by simp), h2⟩
end
end Go.Ab
