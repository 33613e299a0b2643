import Derived.Test.YtipnfcbpbomonaaDoorM8
import Derived.RangeFuncLeaves
import Derived.KernelRfl
namespace Go.Ab
open Go Go.RowKit
set_option linter.unusedVariables false
set_option linter.unusedSimpArgs false
variable {P : Program} {Γ : Con} {X : Nat → Prop} {β : List Base} {L : LH} {N B : Nat} {rr : Option Nat} {w : World}
def shut (L : LH) (p : PV) : Prop × PV :=
  match p with
  | .own id off n sz => ((slc L (.own id off n sz)).1 ∧ clrOk (L.set id .dead) 3 (slc L (.own id off n sz)).2.2, .new n sz (clr (L.set id .dead) 3 (slc L (.own id off n sz)).2.2))
  | .tup (.own id off n sz :: rs) => ((slc L (.own id off n sz)).1 ∧ clrOk (L.set id .dead) 3 (slc L (.own id off n sz)).2.2 ∧ clrOk (L.set id .dead) 4 rs, .tup (.new n sz (clr (L.set id .dead) 3 (slc L (.own id off n sz)).2.2) :: clr (L.set id .dead) 4 rs))
  | .tup rs => (clrOk L 4 rs, .tup (clr L 4 rs))
  | p => (borrowOk L p, borrow L p)
theorem shut_own {id off n sz : Nat} {v : Value} {w0 : World} (hH : RepH X β w L) (h : RepV X β w (.own id off n sz) v) (hfresh : ∀ b, Live β b → w0.heap.size ≤ b)
    (hok : (slc L (.own id off n sz)).1) (hc : clrOk (L.set id .dead) 3 (slc L (.own id off n sz)).2.2) :
    NewRow X w0 w n sz (clr (L.set id .dead) 3 (slc L (.own id off n sz)).2.2) v ∧
    ∃ β1, RepH (fun x => X x ∨ blockOf v x) β1 w (L.set id .dead) ∧ ∀ p u, RepV X β w p u → RepV (fun x => X x ∨ blockOf v x) β1 w p u := by
  obtain ⟨cs, hL, hle⟩ : ∃ cs, L[id]? = some (.cells cs) ∧ off + n * sz ≤ cs.length := by
    have := hok
    unfold slc at this
    simp only at this
    split at this
    · rename_i cs h; exact ⟨cs, h, this⟩
    · exact this.elim
  have hsl : (slc L (.own id off n sz)).2.2 = (cs.drop off).take (n * sz) := by simp [slc, hL]
  rw [hsl] at hc ⊢
  rcases own_slice hH hL h with ⟨h1, rfl, rfl, rfl, rfl⟩ | ⟨b, base, c, el, cap, h1, rfl, hn, h2, h3, h4, h5⟩
  · obtain ⟨hk, g⟩ := repH_kill hH id
    have e : (fun x => X x ∨ blockOf (.slice none 0 0) x) = X := by funext x; simp [blockOf]
    rw [e]
    refine ⟨.inl ⟨rfl, rfl, ?_⟩, β.set id .dead, hk, fun p u hp => hp.grow g⟩
    simp [clr, closedL]
  · obtain ⟨hk, _, hnl, hlb⟩ := kill_apart hH h1
    have hrow := apartR h1 hH.inj b _ _ (row_sub h5 off (n * sz))
    obtain ⟨e1, e2⟩ := clr_row hk hrow hc
    have hlen : (clr (L.set id .dead) 3 ((cs.drop off).take (n * sz))).length = n * sz := by
      unfold clr
      cases closedL ((cs.drop off).take (n * sz)) <;> simp <;> omega
    have e : (fun x => X x ∨ blockOf (.slice (some ⟨b, base + off, none⟩) n cap) x) = (fun x => X x ∨ x = b) := by funext x; simp [blockOf]
    rw [e]
    have hnc : n * sz ≤ cap * sz := Nat.mul_le_mul_right _ hn
    exact ⟨.inr ⟨b, base + off, cap, c, el, rfl, hn, hfresh b hlb, h2, by omega, by rw [hlen]; omega, e1, e2⟩, β.set id .dead, hk, fun p u hp => apartV h1 hH.inj p u hp⟩
theorem repR_plain {r : PV} {v : Value} {w0 : World} (hc : closed r = true) (h : RepV X [] w r v) : RepR X w0 w r v := by
  unfold RepR
  split
  · simp [closed] at hc
  · simp [closed, closedL] at hc
  · exact ⟨hc, h⟩
theorem shut_rep {p : PV} {v : Value} {w0 : World} (hH : RepH X β w L) (h : RepV X β w p v) (hfresh : ∀ b, Live β b → w0.heap.size ≤ b) (hok : (shut L p).1) : RepR X w0 w (shut L p).2 v := by
  unfold shut at hok ⊢
  split
  · rename_i id off n sz
    simp only at hok
    simp only [RepR]
    exact (shut_own hH h hfresh hok.1 hok.2).1
  · rename_i id off n sz rs
    simp only at hok
    simp only [RepV, RepL] at h
    obtain ⟨vs, rfl, v0, r, rfl, h0, hrs⟩ := h
    have h0' : RepV X β w (.own id off n sz) v0 := by simp only [RepV]; exact h0
    obtain ⟨e1, β1, hk, hall⟩ := shut_own hH h0' hfresh hok.1 hok.2.1
    simp only [RepR]
    have hrs' : RepL (fun x => X x ∨ blockOf v0 x) β1 w rs r := by
      rw [RepL.iff] at hrs ⊢
      exact ⟨hrs.1, fun i q u hq hu => hall q u (hrs.2 i q u hq hu)⟩
    obtain ⟨e2, e3⟩ := clr_list hk hrs' hok.2.2
    exact ⟨v0, r, rfl, e1, e2, e3⟩
  · rename_i rs hne
    simp only at hok
    simp only [RepV] at h
    obtain ⟨vs, rfl, hrs⟩ := h
    obtain ⟨e2, e3⟩ := clr_list hH hrs hok
    exact repR_plain (by simpa [closed] using e2) (by simp only [RepV]; exact ⟨vs, rfl, e3⟩)
  · simp only at hok
    obtain ⟨e1, e2⟩ := borrow_rep hH h hok
    exact repR_plain e2 e1
def entry : Nat → List PV → Env
  | _, [] => []
  | i, p :: r => (i, p) :: entry (i + 1) r
theorem entry_lookup {ps : List PV} {vs : List Value} (h : RepL X β w ps vs) (rest : List Value) : ∀ (k : Nat) (t : Nat), RepV X β w (lookup (entry k ps) t) (if k ≤ t then ((vs ++ rest).getD (t - k) undef) else undef) := by
  induction ps generalizing vs with
  | nil => intro k t; simp [entry, lookup, RepV]
  | cons p ps ih =>
    intro k t
    simp only [RepL] at h
    obtain ⟨v, r, rfl, h1, h2⟩ := h
    simp only [entry, lookup]
    cases hb : (k == t) with
    | true =>
      have := eq_of_beq hb
      subst this
      simpa using h1
    | false =>
      have hne : k ≠ t := fun e => by subst e; simp [beq_self_eq_true] at hb
      have := ih h2 (k + 1) t
      simp only [cond_false]
      by_cases hk : k + 1 ≤ t
      · rw [if_pos hk] at this
        rw [if_pos (by omega)]
        rw [show t - k = (t - (k + 1)) + 1 by omega]
        simpa using this
      · rw [if_neg hk] at this
        rw [if_neg (by omega)]
        exact this
def resOne (P : Program) (env : Env) (L : LH) : ResultVar → Prop × PV
  | .tmp t => (True, lookup env t)
  | .cell a t => ((loadF P t (lookup env a) L).pre, (loadF P t (lookup env a) L).val)
def resAll (P : Program) (env : Env) (L : LH) : List ResultVar → Prop
  | [] => True
  | r :: rs => (resOne P env L r).1 ∧ resAll P env L rs
def resPV (P : Program) (fn : Func) (env : Env) (L : LH) : PV :=
  match fn.results.toList with
  | [r] => (resOne P env L r).2
  | rs => .tup (rs.map fun r => (resOne P env L r).2)
theorem loadVar_of_still {t : TypeId} {v va u : Value} (hs : (Instr.loadAt t va).run P w = .ok u w) : ∃ a, va = .pointer (some a) ∧ (loadVar t a).run P w = .ok u w := by
  cases va with
  | pointer a => cases a with
    | some a => exact ⟨a, rfl, by simpa [Instr.loadAt, Instr.sureAddr] using hs⟩
    | none => simp [Instr.loadAt, Instr.sureAddr, stuck] at hs
  | _ => simp [Instr.loadAt, Instr.sureAddr, stuck] at hs
theorem results_run {fn : Func} {env : Env} {a : Act} (hp : resAll P env L fn.results.toList) (hA : RepA N B X β w env a) (hH : RepH X β w L) : ∃ v, (results fn a.tmps).run P w = .ok v w ∧ RepV X β w (resPV P fn env L) v := by
  have one : ∀ r, (resOne P env L r).1 → ∃ v, (match r with | .tmp t => pure (a.tmps.getD t undef) | .cell x t => do loadVar t (← asAddr (a.tmps.getD x undef)) : Sem Value).run P w = .ok v w ∧ RepV X β w (resOne P env L r).2 v := by
    intro r hr
    cases r with
    | tmp t => exact ⟨_, rfl, hA.slot t⟩
    | cell x t =>
      obtain ⟨u, h1, h2, _⟩ := loadF_still (X := X) (β := β) (w := w) t _ _ hr hH (hA.slot x)
      obtain ⟨ad, h3, h4⟩ := loadVar_of_still (v := u) h1
      exact ⟨u, by simp only [h3]; simp [asAddr, h4], h2⟩
  have many : ∀ rs : List ResultVar, resAll P env L rs → ∃ vs : List Value, (rs.mapM (fun r => (match r with | .tmp t => pure (a.tmps.getD t undef) | .cell x t => do loadVar t (← asAddr (a.tmps.getD x undef)) : Sem Value))).run P w = .ok vs w ∧ RepL X β w (rs.map fun r => (resOne P env L r).2) vs := by
    intro rs
    induction rs with
    | nil => intro _; exact ⟨[], by simp, by simp [RepL]⟩
    | cons r rs ih =>
      intro h
      obtain ⟨v, h1, h2⟩ := one r h.1
      obtain ⟨vs, h3, h4⟩ := ih h.2
      refine ⟨v :: vs, ?_, by simp only [List.map_cons, RepL]; exact ⟨v, vs, rfl, h2, h4⟩⟩
      rw [List.mapM_cons]
      simp only [Sem.run_bind, h1, Result.andThen_ok, h3, Sem.run_pure]
  obtain ⟨vs, h1, h2⟩ := many _ hp
  have hm : (fn.results.mapM (fun r => (match r with | .tmp t => pure (a.tmps.getD t undef) | .cell x t => do loadVar t (← asAddr (a.tmps.getD x undef)) : Sem Value))).run P w = .ok vs.toArray w := by
    rw [Array.mapM_eq_mapM_toList, Sem.run_map, h1]
    rfl
  have hm' : ∀ g : ResultVar → Sem Value, (∀ r, g r = (match r with | .tmp t => pure (a.tmps.getD t undef) | .cell x t => do loadVar t (← asAddr (a.tmps.getD x undef)) : Sem Value)) → (fn.results.mapM g).run P w = .ok vs.toArray w := by
    intro g hg
    rw [show g = _ from funext hg]
    exact hm
  have hlen := RepL.length h2
  unfold resPV
  split
  · rename_i r hr
    rw [hr] at h2 hlen
    simp only [List.map_cons, List.map_nil, RepL] at h2
    obtain ⟨v, r', rfl, h3, rfl⟩ := h2
    refine ⟨v, ?_, h3⟩
    unfold results
    simp only [Sem.run_bind]
    rw [hm' _ (fun r => by cases r <;> rfl)]
    simp
  · rename_i hne
    refine ⟨.tuple vs.toArray, ?_, by simp only [RepV]; exact ⟨vs, rfl, h2⟩⟩
    have h1' : ¬ vs.length = 1 := by
      intro h
      rw [h] at hlen
      simp at hlen
      cases hr : fn.results.toList with
      | nil => rw [← Array.length_toList, hr] at hlen; simp at hlen
      | cons r rs =>
        cases rs with
        | nil => exact hne r hr
        | cons _ _ => rw [← Array.length_toList, hr] at hlen; simp at hlen
    unfold results
    simp only [Sem.run_bind]
    rw [hm' _ (fun r => by cases r <;> rfl)]
    simp [h1']
def ShutOk (L : LH) (p r : PV) : Prop :=
  ((shut L p).1 ∧ (shut L p).2 = r) ∨ (p = .lit (.slice none 0 0) ∧ ∃ sz, r = .new 0 sz []) ∨
  (∃ rs sz, p = .tup (.lit (.slice none 0 0) :: rs) ∧ closedL rs = true ∧ r = .tup (.new 0 sz [] :: rs))
theorem shutOk_rep {p r : PV} {v : Value} {w0 : World} (hH : RepH X β w L) (h : RepV X β w p v) (hfresh : ∀ b, Live β b → w0.heap.size ≤ b) (hok : ShutOk L p r) : RepR X w0 w r v := by
  rcases hok with ⟨h1, rfl⟩ | ⟨rfl, sz, rfl⟩ | ⟨rs, sz, rfl, hc, rfl⟩
  · exact shut_rep hH h hfresh h1
  · simp only [RepV] at h; subst h
    simp only [RepR]
    exact .inl ⟨rfl, rfl, rfl⟩
  · simp only [RepV, RepL] at h
    obtain ⟨vs, rfl, v0, r, rfl, rfl, hrs⟩ := h
    simp only [RepR]
    refine ⟨_, r, rfl, .inl ⟨rfl, rfl, rfl⟩, hc, RepL.anti (fun b hb => ?_) rs r hc hrs⟩
    rcases hb with (hb | hb) | hb
    · exact .inl hb
    · exact hb.elim
    · exact absurd hb live_nil
structure Unw (B : Nat) (w w' : World) : Prop where
  os : w'.os = w.os
  tape : w'.tape = w.tape
  output : w'.output = w.output
  cal : Cal w w'
  old : ∀ k, k < B → w'.heap[k]? = w.heap[k]?
theorem Unw.refl (B : Nat) (w : World) : Unw B w w := ⟨rfl, rfl, rfl, ⟨Nat.le_refl _, fun _ _ _ _ h => h⟩, fun _ _ => rfl⟩
theorem Unw.trans {B : Nat} {w w' w'' : World} (h : Unw B w w') (k : Unw B w' w'') : Unw B w w'' :=
  ⟨k.os.trans h.os, k.tape.trans h.tape, k.output.trans h.output, ⟨Nat.le_trans h.cal.size k.cal.size, fun i c el fr hi => k.cal.cells i c el fr (h.cal.cells i c el fr hi)⟩, fun i hi => (k.old i hi).trans (h.old i hi)⟩
theorem WGrow.unw {n : Nat} {β' : List Base} {w w1 w2 : World} (g : WGrow n β β' w w1) (u : Unw w.heap.size w1 w2) : WGrow n β β' w w2 :=
  ⟨u.os.trans g.os, u.tape.trans g.tape, u.output.trans g.output, Nat.le_trans g.size u.cal.size, fun k hk hl => (u.old k hk).trans (g.block k hk hl), fun k c el fr hk => by
    obtain ⟨c', fr', h1, h2⟩ := g.shape k c el fr hk
    exact ⟨c', fr', u.cal.cells k c' el fr' h1, h2⟩, g.live, g.len, g.keep⟩
theorem marks_put {D : Nat} {o : Obj} : ∀ {ds : List Deferred} {w : World}, (∀ e ∈ ds, e.target ≠ .collected D) → Marks B β w ds → Marks B β (w.putObj D o) ds
  | [], w, _, h => by simpa [Marks] using h
  | d :: ds, w, hne, ⟨⟨E, h1, h2, h3, h4, h5⟩, h⟩ => by
    have hED : E ≠ D := fun e => hne d (by simp) (by rw [h1, e])
    exact ⟨⟨E, h1, h2, h3, (World.putObj_heap_other hED).trans h4, h5⟩, marks_put (fun e he => hne e (by simp [he])) h⟩
theorem leavesM {fn : Func} {tmps : Array Value} {R : Ending → World → Prop} : ∀ (ds : List Deferred) (w : World), Marks B β w ds → (∀ w', Unw B w w' → ∃ v, (results fn tmps).run P w' = .ok v w' ∧ R (.returned v) w') → LeavesInM Fence.wide 0 P fn tmps R ds .returning w
  | [], w, _, h => h w (Unw.refl B w)
  | d :: ds, w, ⟨⟨D, h1, h2, h3, h4, h5⟩, hm⟩, h => by
    refine ⟨by simp, .inl ⟨D, _, by rw [h1], run_takeDeferred h4, leavesM ds _ (marks_put h5 hm) fun w' hu => h w' (Unw.trans (w' := w.putObj D (.deferred none)) ⟨rfl, rfl, rfl, cal_put h4 rfl, fun k hk => World.putObj_heap_other (by omega)⟩ hu)⟩⟩
theorem RepA.unw {B' : Nat} {env : List (Nat × PV)} {a : Act} {w w' : World} (h : RepA N B X β w env a) (u : Unw B' w w') : RepA N B X β w' env { a with defers := [] } :=
  ⟨h.size, Nat.le_trans h.defers.base u.cal.size, fun t => RepV.calm u.cal _ _ (h.slot t), h.glob.calm u.cal⟩
theorem calls_marks {f : FuncId} {fn : Func} {c : Code} {args : Array Value} {w : World} {R : Ending → World → Prop} (hf : P.funcs[f]? = some fn) (hb : fn.body = some c)
    (h : c.wpIn (FF none) 0 P (fun e a w' => (e = .normal ∨ e = .ret) ∧ ∃ β, Marks w.heap.size β w' a.defers ∧ ∀ w2, Unw w.heap.size w' w2 → ∃ v, (results fn a.tmps).run P w2 = .ok v w2 ∧ R (.returned v) w2) { tmps := args ++ Array.replicate (fn.ntmps - args.size) undef, defers := [] } w) :
    Calls P f args w R := by
  refine callsIn_wide.1 (callsIn_of_wp_marks (n := 0) hf hb trivial (wpIn_mono h ?_))
  rintro e a w' ⟨he, β, hm, hr⟩
  rcases he with rfl | rfl <;> exact leavesM _ _ hm hr
def Fin (P : Program) (fn : Func) (r : PV) (e : Exit) (env : Env) (L : LH) : Prop :=
  (e = .normal ∨ e = .ret) ∧ resAll P env L fn.results.toList ∧ ShutOk L (resPV P fn env L) r
theorem pureOk_of (hΓ : GammaOk P Γ) (hm : P.follows .mixedOrders = true) {f : FuncId} {fn : Func} {c : Code} {S : List PV → Prop × PV} (hf : P.funcs[f]? = some fn) (hb : fn.body = some c) (hfit : fits fn.ntmps c = true)
    (hcall : ∀ (vs : Array Value) (w : World), (callFunc f vs).run P w = .ok (.enter f vs) w)
    (h : ∀ args, (S args).1 → args.length ≤ fn.ntmps ∧ Ex P Γ c (entry 0 args) [] (Fin P fn (S args).2)) : PureOk P f S where
  call := fun _ => hcall
  run := by
    intro args hS hcl X w vs hX hr hG0
    obtain ⟨hlen, e, env', L', hrun, hfin⟩ := h args hS
    have hvl := RepL.length hr
    refine calls_marks hf hb ?_
    have hsz : (vs.toArray ++ Array.replicate (fn.ntmps - vs.toArray.size) undef).size = fn.ntmps := by simp; omega
    have hA : RepA fn.ntmps w.heap.size X [] w (entry 0 args) { tmps := vs.toArray ++ Array.replicate (fn.ntmps - vs.toArray.size) undef, defers := [] } := by
      refine ⟨hsz, Nat.le_refl _, fun t => ?_, hG0⟩
      have := entry_lookup hr (List.replicate (fn.ntmps - vs.length) undef) 0 t
      simp only [Nat.zero_le, if_true, Nat.sub_zero] at this
      have he : (vs.toArray ++ Array.replicate (fn.ntmps - vs.toArray.size) undef).getD t undef = (vs ++ List.replicate (fn.ntmps - vs.length) undef).getD t undef := by
        simp [List.getD, Array.getElem?_append, List.getElem?_append, Array.getElem?_replicate, List.getElem?_replicate]
      rw [he]; exact this
    have hH : RepH X [] w [] := ⟨rfl, by simp, fun b hb => absurd hb live_nil, fun b hb => ⟨hX b hb, live_nil⟩, by simp⟩
    refine wpIn_mono ((Run.sound hm hrun hΓ).1 none fn.ntmps w.heap.size X [] w _ (.inl rfl) hfit hA hH) fun e1 a1 w0 he => ?_
    obtain ⟨rfl, β', g1, g2, g3⟩ := he
    obtain ⟨hex, hres, hs⟩ := hfin
    refine ⟨hex, β', g1.defers, fun w1 hu => ?_⟩
    have h1 := g1.unw hu
    have h2 := g2.calm hu.cal
    have h3 := g3.unw hu
    obtain ⟨v, hv, hrv⟩ := results_run (P := P) hres h1 h2
    have hfresh : ∀ b, Live β' b → w.heap.size ≤ b := fun b hb => by
      rcases h3.live b hb with h | h
      · exact absurd h live_nil
      · exact h
    have hR := shutOk_rep (w0 := w) h2 hrv hfresh hs
    have hg : Grow [] [] w w1 := ⟨h3.os, h3.tape, h3.output, h3.size, fun k hk _ => h3.block k hk live_nil, h3.shape, fun b hb => .inl hb, Nat.le_refl _, fun id x hid => by simp at hid⟩
    exact ⟨v, hv, v, rfl, hg, hR⟩
end Go.Ab
namespace Go.Ab
open Go Go.RowKit
set_option linter.unusedVariables false
set_option linter.unusedSimpArgs false
variable {P : Program} {L : LH} {env : Env}
def CallR (P : Program) (g : FuncId) (args : List PV) (r : PV) : Prop := PureOk P g fun a => (a = args, r)
def CallE (P : Program) (g : FuncId) (args : List PV) (r : PV) : Prop := ExtOk P g fun a => (a = args, r)
def CallS (P : Program) (g : FuncId) (args : List PV) (L : LH) (r : PV) (L' : LH) : Prop := StOk P g fun a K => ⟨a = args ∧ K = L, r, L'⟩
def noCon : Con := ⟨fun _ => .none, 0⟩
theorem noCon_ok : GammaOk P noCon := fun _ => trivial
def oneCon (g : FuncId) (e : Entry) : Con := ⟨fun f => bif f == g then e else .none, 0⟩
theorem oneCon_ok {g : FuncId} {e : Entry} (h : EntryOk P g e) : GammaOk P (oneCon g e) := fun f => by
  unfold oneCon
  cases hb : (f == g) with
  | true => have := eq_of_beq hb; subst this; simpa [hb] using h
  | false => simp only [hb, cond_false]; exact trivial
theorem oneCon_tab {g : FuncId} {e : Entry} : (oneCon g e).tab g = e := by simp [oneCon]
def partB (T : TI) (cs : List PV) (off : Nat) : Bool := bif isAggD T.und then Nat.ble (off + T.size) cs.length else Nat.blt off cs.length
theorem partB_pre {T : TI} {cs : List PV} {off : Nat} (h : partB T cs off = true) : (partF T cs off).1 := by
  unfold partB at h
  unfold partF
  cases hd : isAggD T.und with
  | true => rw [hd] at h; simpa using h
  | false => rw [hd] at h; simp only [cond_false] at h; exact Nat.le_of_ble_eq_true h
def loadB (P : Program) (t : TypeId) (a : PV) (L : LH) : Bool :=
  match tyOf P t with
  | some T => match a with
    | .ptr id off => match L[id]? with
      | some (.cells cs) => partB T cs off
      | _ => false
    | .rptr cs => partB T cs 0
    | _ => false
  | none => false
theorem loadB_pre {t : TypeId} {a : PV} (h : loadB P t a L = true) : (loadF P t a L).pre := by
  unfold loadB at h
  unfold loadF
  split at h
  · split at h
    · split at h
      · simp only [*]; exact partB_pre h
      · cases h
    · simp only [*]; exact partB_pre h
    · cases h
  · cases h
def storeB (P : Program) (draw : Bool) (t : TypeId) (a v : PV) (L : LH) : Bool :=
  match tyOf P t, draw with
  | some T, false => match a with
    | .ptr id off => match L[id]? with
      | some (.cells cs) => Nat.beq v.cells.length T.size && Nat.ble (off + T.size) cs.length && v.cells.all PV.one
      | _ => false
    | _ => false
  | _, _ => false
theorem storeB_pre {draw : Bool} {t : TypeId} {a v : PV} (h : storeB P draw t a v L = true) : (storeF P draw t a v L).pre := by
  unfold storeB at h
  unfold storeF
  split at h
  · split at h
    · split at h
      · simp only [*]
        simp only [Bool.and_eq_true] at h
        exact ⟨Nat.eq_of_beq_eq_true h.1.1, Nat.le_of_ble_eq_true h.1.2, h.2⟩
      · cases h
    · cases h
  · cases h
def allocB (P : Program) (draw : Bool) (t : TypeId) : Bool :=
  match tyOf P t, draw with
  | some T, false => T.zero.cells.toList.all Value.oneCell'
  | _, _ => false
theorem allocB_pre {draw : Bool} {t : TypeId} (h : allocB P draw t = true) : (allocF P draw t L).pre := by
  unfold allocB at h
  unfold allocF
  split at h
  · simp only [*]; exact List.all_eq_true.1 h
  · cases h
def boxB (draw : Bool) (v : PV) : Bool := bif draw then false else v.cells.all PV.one
theorem boxB_pre {draw : Bool} {v : PV} (h : boxB draw v = true) : (boxF draw v L).pre := by
  unfold boxB at h
  cases draw
  · exact h
  · cases h
def indexAddrB (P : Program) (t : TypeId) (x i : PV) (L : LH) : Bool :=
  match i with
  | .lit (.int _ i) => match tyOf P t with
    | some ⟨.slice e, _, _, _⟩ => match tyOf P e, x with
      | some E, .ro n cs => decide (0 ≤ i) && decide (i < n) && Nat.beq cs.length (n * E.size) && Nat.blt 0 E.size
      | some E, .own id off n sz => match L[id]? with
        | some (.cells _) => decide (0 ≤ i) && decide (i < n) && Nat.beq sz E.size
        | _ => false
      | _, _ => false
    | some ⟨.array n e, _, _, _⟩ => match tyOf P e, x with
      | some E, .ptr id off => match L[id]? with
        | some (.cells _) => decide (0 ≤ i) && decide (i < n)
        | _ => false
      | some E, .rptr cs => decide (0 ≤ i) && decide (i < n) && Nat.beq cs.length (n * E.size) && Nat.blt 0 E.size
      | _, _ => false
    | _ => false
  | _ => false
theorem indexAddrB_pre {t : TypeId} {x i : PV} (h : indexAddrB P t x i L = true) : (indexAddrF P t x i L).pre := by
  unfold indexAddrB at h
  unfold indexAddrF
  split at h
  · split at h
    · split at h
      · simp only [*]
        simp only [Bool.and_eq_true, decide_eq_true_eq] at h
        exact ⟨h.1.1.1, h.1.1.2, Nat.eq_of_beq_eq_true h.1.2, Nat.le_of_ble_eq_true h.2⟩
      · split at h
        · simp only [*]
          simp only [Bool.and_eq_true, decide_eq_true_eq] at h
          exact ⟨h.1.1, h.1.2, Nat.eq_of_beq_eq_true h.2⟩
        · cases h
      · cases h
    · split at h
      · split at h
        · simp only [*]
          simp only [Bool.and_eq_true, decide_eq_true_eq] at h
          exact ⟨h.1, h.2⟩
        · cases h
      · simp only [*]
        simp only [Bool.and_eq_true, decide_eq_true_eq] at h
        exact ⟨h.1.1.1, h.1.1.2, Nat.eq_of_beq_eq_true h.1.2, Nat.le_of_ble_eq_true h.2⟩
      · cases h
    · cases h
  · cases h
def fieldB (P : Program) (t : TypeId) (x : PV) (f : Nat) : Bool :=
  match tyOf P t with
  | some ⟨.struct fs, _, _, _⟩ => match fs[f]? with
    | some fd => match tyOf P fd.type with
      | some T => match x with
        | .agg cs => partB T cs fd.offset
        | _ => false
      | none => false
    | none => false
  | _ => false
theorem fieldB_pre {t : TypeId} {x : PV} {f : Nat} (h : fieldB P t x f = true) : (fieldF P t x f L).pre := by
  unfold fieldB at h
  unfold fieldF
  split at h
  · split at h
    · split at h
      · split at h
        · simp only [*]; exact partB_pre h
        · cases h
      · cases h
    · cases h
  · cases h
def fieldAddrB (P : Program) (t : TypeId) (a : PV) (f : Nat) (L : LH) : Bool :=
  match tyOf P t with
  | some ⟨.struct fs, _, _, _⟩ => match fs[f]? with
    | some fd => match tyOf P fd.type, a with
      | some T, .ptr id off => match L[id]? with
        | some (.cells _) => Nat.blt 0 T.size
        | _ => false
      | some T, .rptr cs => Nat.ble (fd.offset + T.size) cs.length && Nat.blt 0 T.size
      | _, _ => false
    | none => false
  | _ => false
theorem fieldAddrB_pre {t : TypeId} {a : PV} {f : Nat} (h : fieldAddrB P t a f L = true) : (fieldAddrF P t a f L).pre := by
  unfold fieldAddrB at h
  unfold fieldAddrF
  split at h
  · split at h
    · split at h
      · split at h
        · simp only [*]; exact Nat.le_of_ble_eq_true h
        · cases h
      · simp only [*]
        simp only [Bool.and_eq_true] at h
        exact ⟨Nat.le_of_ble_eq_true h.1, Nat.le_of_ble_eq_true h.2⟩
      · cases h
    · cases h
  · cases h
def indexB (P : Program) (t : TypeId) (x i : PV) : Bool :=
  match i with
  | .lit (.int _ i) => match tyOf P t with
    | some ⟨.array n e, _, _, _⟩ => match tyOf P e, x with
      | some E, .agg cs => decide (0 ≤ i) && decide (i < n) && partB E cs (i.toNat * E.size)
      | _, _ => false
    | _ => false
  | _ => false
theorem indexB_pre {t : TypeId} {x i : PV} (h : indexB P t x i = true) : (indexF P t x i L).pre := by
  unfold indexB at h
  unfold indexF
  split at h
  · split at h
    · split at h
      · simp only [*]
        simp only [Bool.and_eq_true, decide_eq_true_eq] at h
        exact ⟨h.1.1, h.1.2, partB_pre h.2⟩
      · cases h
    · cases h
  · cases h
def extractB (x : PV) (i : Nat) : Bool :=
  match x with
  | .tup vs => match vs[i]? with
    | some _ => true
    | none => false
  | _ => false
theorem extractB_pre {x : PV} {i : Nat} (h : extractB x i = true) : (extractF x i L).pre := by
  unfold extractB at h
  unfold extractF
  split at h
  · split at h
    · simp only [*]
    · cases h
  · cases h
def buildB (P : Program) (t : TypeId) (parts : List (Nat × PV)) : Bool :=
  match tyOf P t with
  | some ⟨.array n e, _, _, z⟩ => match tyOf P e with
    | some E => match fillB (fun i => some (i * E.size, E.size)) (zeroCells z) parts with
      | some cs => parts.all (fun x => x.2.cells.all PV.one)
      | none => false
    | none => false
  | some ⟨.struct fs, _, _, z⟩ => bif (placesF P fs.toList).all Option.isSome then match fillB (fun i => ((placesF P fs.toList)[i]?).join) (zeroCells z) parts with
      | some cs => parts.all (fun x => x.2.cells.all PV.one)
      | none => false
    else false
  | _ => false
theorem buildB_pre {t : TypeId} {parts : List (Nat × PV)} (h : buildB P t parts = true) : (buildF P t parts L).pre := by
  unfold buildB at h
  unfold buildF
  split at h
  · split at h
    · split at h
      · simp only [*]
      · cases h
    · cases h
  · cases hp : (placesF P _).all Option.isSome with
    | true =>
      rw [hp] at h
      simp only [cond_true] at h
      split at h
      · simp only [*, cond_true]
      · cases h
    | false => rw [hp] at h; cases h
  · cases h
def intB (op : BinOp) (b : Int) : Bool :=
  match op with
  | .add | .sub | .mul | .and | .or | .xor | .andNot | .eql | .neq | .lss | .leq | .gtr | .geq => true
  | .quo | .rem => !decide (b = 0)
  | _ => false
def aggEqB (P : Program) (t : TypeId) (xs ys : List PV) : Bool :=
  match eqG P t (.agg xs) (.agg ys) with
  | some _ => true
  | none => false
def boolEqB (P : Program) (t : TypeId) : Bool :=
  match tyOf P t with
  | some ⟨.bool, _, _, _⟩ => true
  | _ => false
def binB (P : Program) (op : BinOp) (t : TypeId) (x y : PV) : Bool :=
  match x, y with
  | .lit (.int k a), .lit (.int k' b) => match op with
    | .shl | .shr => decide (0 ≤ b)
    | op => decide (k = k') && intB op b
  | .lit (.string a), .lit (.string b) => match op with
    | .eql | .neq => true
    | _ => false
  | .lit (.bool a), .lit (.bool b) => match op with
    | .eql | .neq => boolEqB P t
    | _ => false
  | .agg xs, .agg ys => match op with
    | .eql | .neq => aggEqB P t xs ys
    | _ => false
  | _, _ => false
theorem boolEqB_pre {t : TypeId} (h : boolEqB P t = true) : (tyOf P t).map (·.und) = some .bool := by
  unfold boolEqB at h
  split at h
  · rename_i h1; rw [h1]; rfl
  · cases h
theorem aggEqB_pre {t : TypeId} {xs ys : List PV} (h : aggEqB P t xs ys = true) : (binF P .eql t (.agg xs) (.agg ys) L).pre ∧ (binF P .neq t (.agg xs) (.agg ys) L).pre := by
  unfold aggEqB at h
  simp only [binF]
  split at h
  · rename_i hb
    simp only [hb]
    exact ⟨trivial, trivial⟩
  · cases h
theorem binB_pre {op : BinOp} {t : TypeId} {x y : PV} (h : binB P op t x y = true) : (binF P op t x y L).pre := by
  unfold binB at h
  split at h
  · cases op <;> simp_all [binF, binInt, intB]
  · cases op <;> simp_all [binF, binStr]
  · cases op <;> first | (cases h; done) | exact boolEqB_pre h
  · cases op <;> first | (cases h; done) | exact (aggEqB_pre h).1 | exact (aggEqB_pre h).2
  · cases h
def unB (op : UnOp) (x : PV) : Bool :=
  match op, x with
  | .neg, .lit (.int _ _) => true
  | .xor, .lit (.int _ _) => true
  | .not, .lit (.bool _) => true
  | _, _ => false
theorem unB_pre {op : UnOp} {x : PV} (h : unB op x = true) : (unF op x L).pre := by
  unfold unB at h
  split at h
  · trivial
  · trivial
  · trivial
  · cases h
def convB (P : Program) (src dst : TypeId) (x : PV) : Bool :=
  match x with
  | .lit (.int _ _) => match tyOf P src, tyOf P dst with
    | some _, some ⟨.int _, _, _, _⟩ => true
    | _, _ => false
  | .lit (.string _) => match tyOf P src, tyOf P dst with
    | some ⟨.string, _, _, _⟩, some ⟨.string, _, _, _⟩ => true
    | some ⟨.string, _, _, _⟩, some ⟨.slice e, _, _, _⟩ => match tyOf P e with
      | some ⟨.int .u8, 1, _, _⟩ => true
      | _ => false
    | _, _ => false
  | _ => false
theorem convB_pre {draw : Bool} {src dst : TypeId} {x : PV} (h : convB P src dst x = true) : (convG P draw src dst x L).pre := by
  unfold convB at h
  split at h
  · rename_i k n
    have e : convG P draw src dst (.lit (.int k n)) L = convF P src dst (.lit (.int k n)) L := by cases draw <;> rfl
    rw [e]
    unfold convF
    split at h
    · simp only [*]
    · cases h
  · rename_i b
    have e : convG P draw src dst (.lit (.string b)) L = convF P src dst (.lit (.string b)) L := by cases draw <;> rfl
    rw [e]
    unfold convF
    split at h
    · simp only [*]
    · split at h
      · simp only [*]
      · cases h
    · cases h
  · cases h
def sliceB (P : Program) (t : TypeId) (x : PV) (lo hi mx : Option PV) (L : LH) : Bool :=
  match tyOf P t, mx with
  | some ⟨.slice e, _, _, _⟩, none => match tyOf P e, x with
    | some E, .lit (.slice none 0 0) => match ints? lo 0, ints? hi 0 with
      | some l, some h => decide (l = 0) && decide (h = 0)
      | _, _ => false
    | some E, .ro n cs => match ints? lo 0, ints? hi n with
      | some l, some h => decide (0 ≤ l) && decide (l ≤ h) && decide (h ≤ n) && Nat.beq cs.length (n * E.size)
      | _, _ => false
    | some E, .own id off n sz => match ints? lo 0, ints? hi n, L[id]? with
      | some l, some h, some (.cells _) => decide (0 ≤ l) && decide (l ≤ h) && decide (h ≤ n) && Nat.beq sz E.size && (decide (l = 0) || decide (l < h))
      | _, _, _ => false
    | _, _ => false
  | some ⟨.array n e, _, _, _⟩, none => match tyOf P e, x, ints? lo 0, ints? hi n with
    | some E, .ptr id off, some l, some h => match L[id]? with
      | some (.cells cs) => decide (0 ≤ l) && decide (l ≤ h) && decide (h ≤ n) && (decide (l = 0) || decide (l < h)) && Nat.ble (off + n * E.size) cs.length
      | _ => false
    | some E, .rptr cs, some l, some h => decide (l = 0) && decide (h = n) && Nat.blt 0 n && Nat.beq cs.length (n * E.size) && Nat.blt 0 E.size
    | _, _, _, _ => false
  | _, _ => false
theorem sliceB_pre {t : TypeId} {x : PV} {lo hi mx : Option PV} (h : sliceB P t x lo hi mx L = true) : (sliceF P t x lo hi mx L).pre := by
  unfold sliceB at h
  unfold sliceF
  split at h
  · split at h
    · split at h
      · simp only [*]
        simp only [Bool.and_eq_true, decide_eq_true_eq] at h
        exact h
      · cases h
    · split at h
      · simp only [*]
        simp only [Bool.and_eq_true, decide_eq_true_eq] at h
        exact ⟨h.1.1.1, h.1.1.2, h.1.2, Nat.eq_of_beq_eq_true h.2⟩
      · cases h
    · split at h
      · simp only [*]
        simp only [Bool.and_eq_true, Bool.or_eq_true, decide_eq_true_eq] at h
        exact ⟨h.1.1.1.1, h.1.1.1.2, h.1.1.2, Nat.eq_of_beq_eq_true h.1.2, h.2⟩
      · cases h
    · cases h
  · split at h
    · split at h
      · simp only [*]
        simp only [Bool.and_eq_true, Bool.or_eq_true, decide_eq_true_eq] at h
        exact ⟨h.1.1.1.1, h.1.1.1.2, h.1.1.2, h.1.2, Nat.le_of_ble_eq_true h.2⟩
      · cases h
    · simp only [*]
      simp only [Bool.and_eq_true, decide_eq_true_eq] at h
      exact ⟨h.1.1.1.1, h.1.1.1.2, Nat.le_of_ble_eq_true h.1.1.2, Nat.eq_of_beq_eq_true h.1.2, Nat.le_of_ble_eq_true h.2⟩
    · cases h
  · cases h
def lenB (P : Program) (t : TypeId) (x : PV) (L : LH) : Bool :=
  match tyOf P t with
  | some ⟨.string, _, _, _⟩ => match x with
    | .lit (.string _) => true
    | _ => false
  | some ⟨.slice _, _, _, _⟩ => match x with
    | .lit (.slice _ _ _) => true
    | .ro _ _ => true
    | .own id _ _ _ => match L[id]? with
      | some (.cells _) => true
      | _ => false
    | _ => false
  | some ⟨.array _ _, _, _, _⟩ => true
  | _ => false
theorem lenB_pre {t : TypeId} {x : PV} (h : lenB P t x L = true) : (lenF P t x L).pre := by
  unfold lenB at h
  unfold lenF
  split at h
  · split at h
    · simp only [*]
    · cases h
  · split at h
    · simp only [*]
    · simp only [*]
    · split at h
      · simp only [*]
      · cases h
    · cases h
  · simp only [*]
  · cases h
def makeB (P : Program) (t : TypeId) (l c : PV) : Bool :=
  match tyOf P t with
  | some ⟨.slice e, _, _, _⟩ => match tyOf P e, l, c with
    | some E, .lit (.int _ l), .lit (.int _ c) => decide (0 ≤ l) && decide (l ≤ c) && decide (E.bytes * c ≤ 281474976710656) && decide (c ≤ 9223372036854775807) && Nat.beq E.zero.cells.size E.size && E.zero.cells.toList.all Value.oneCell'
    | _, _, _ => false
  | _ => false
theorem makeB_pre {draw : Bool} {t : TypeId} {l c : PV} (h : makeB P t l c = true) : (makeF P draw t l c L).pre := by
  unfold makeB at h
  unfold makeF
  split at h
  · split at h
    · simp only [*]
      simp only [Bool.and_eq_true, decide_eq_true_eq] at h
      exact ⟨h.1.1.1.1.1, h.1.1.1.1.2, h.1.1.1.2, h.1.1.2, Nat.eq_of_beq_eq_true h.1.2, List.all_eq_true.1 h.2⟩
    · cases h
  · cases h
def slcB (L : LH) : PV → Bool
  | .lit (.slice none 0 0) => true
  | .ro _ _ => true
  | .own id off n sz => match L[id]? with
    | some (.cells cs) => Nat.ble (off + n * sz) cs.length
    | _ => false
  | _ => false
theorem slcB_pre {x : PV} (h : slcB L x = true) : (slc L x).1 := by
  unfold slcB at h
  unfold slc
  split at h
  · trivial
  · trivial
  · split at h
    · simp only [*]; exact Nat.le_of_ble_eq_true h
    · cases h
  · cases h
def copyB (P : Program) (draw : Bool) (t : TypeId) (d s : PV) (L : LH) : Bool :=
  match tyOf P t with
  | some ⟨.slice e, _, _, _⟩ => match tyOf P e, d, draw with
    | some E, .own id off n sz, false => match L[id]? with
      | some (.cells cs) => slcB L s && Nat.beq sz E.size && Nat.beq (slc L s).2.2.length ((slc L s).2.1 * E.size) && Nat.ble (off + n * sz) cs.length
      | _ => false
    | _, _, _ => false
  | _ => false
theorem copyB_pre {draw : Bool} {t : TypeId} {d s : PV} (h : copyB P draw t d s L = true) : (copyF P draw t d s L).pre := by
  unfold copyB at h
  unfold copyF
  split at h
  · split at h
    · split at h
      · simp only [*]
        simp only [Bool.and_eq_true] at h
        exact ⟨slcB_pre h.1.1.1, Nat.eq_of_beq_eq_true h.1.1.2, Nat.eq_of_beq_eq_true h.1.2, Nat.le_of_ble_eq_true h.2⟩
      · cases h
    · cases h
  · cases h
def nilB (x : PV) (L : LH) : Bool :=
  match x with
  | .rptr _ => true
  | .ptr id _ => match L[id]? with
    | some (.cells _) => true
    | _ => false
  | _ => false
def mmB (x y : PV) : Bool :=
  match x, y with
  | .lit (.int _ _), .lit (.int _ _) => true
  | _, _ => false
def opB (P : Program) (draw : Bool) (ρ : Operand → PV) (L : LH) (op : Op) : Bool :=
  match op with
  | .move _ => true
  | .assign _ => true
  | .alloc t => allocB P draw t
  | .box _ x => boxB draw (ρ x)
  | .build t parts => buildB P t (parts.toList.map fun x => (x.1, ρ x.2))
  | .fieldAddr t x f => fieldAddrB P t (ρ x) f L
  | .load t a => loadB P t (ρ a) L
  | .store t a x => storeB P draw t (ρ a) (ρ x) L
  | .nilCheck x => nilB (ρ x) L
  | .binOp op t x y _ => binB P op t (ρ x) (ρ y)
  | .unOp op _ x => unB op (ρ x)
  | .convert src dst x => convB P src dst (ρ x)
  | .makeSlice t l c => makeB P t (ρ l) (ρ c)
  | .slice t x lo hi mx => sliceB P t (ρ x) (lo.map ρ) (hi.map ρ) (mx.map ρ) L
  | .indexAddr t x i => indexAddrB P t (ρ x) (ρ i) L
  | .index t x i => indexB P t (ρ x) (ρ i)
  | .field t x f => fieldB P t (ρ x) f
  | .extract x i => extractB (ρ x) i
  | .makeFunc (.func _) _ _ => true
  | .call c => match c.callee, c.args.toList, c.argTypes.toList with
    | .builtin .len, [x], [t] => lenB P t (ρ x) L
    | .builtin .copy, [d, s], [t, _t2] => copyB P draw t (ρ d) (ρ s) L
    | .builtin .min, [x, y], [_t, _t2] => mmB (ρ x) (ρ y)
    | .builtin .max, [x, y], [_t, _t2] => mmB (ρ x) (ρ y)
    | _, _, _ => false
  | _ => false
theorem opB_pre {Γ : Con} {draw : Bool} {ρ : Operand → PV} {op : Op} (h : opB P draw ρ L op = true) : (opF P Γ draw ρ L op).pre := by
  unfold opB at h
  split at h
  · trivial
  · trivial
  · exact allocB_pre h
  · exact boxB_pre h
  · exact buildB_pre h
  · exact fieldAddrB_pre h
  · exact loadB_pre h
  · exact storeB_pre h
  · unfold nilB at h
    simp only [opF]
    split at h
    · simp only [*]
    · split at h
      · simp only [*]
      · cases h
    · cases h
  · exact binB_pre h
  · exact unB_pre h
  · exact convB_pre h
  · exact makeB_pre h
  · exact sliceB_pre h
  · exact indexAddrB_pre h
  · exact indexB_pre h
  · exact fieldB_pre h
  · exact extractB_pre h
  · trivial
  · simp only [opF]
    split at h
    · simp only [*]; exact lenB_pre h
    · simp only [*]; exact copyB_pre h
    · simp only [*]
      unfold mmB at h
      split at h
      · simp only [*]; trivial
      · cases h
    · simp only [*]
      unfold mmB at h
      split at h
      · simp only [*]; trivial
      · cases h
    · cases h
  · cases h
end Go.Ab
namespace Go.Ab
open Go Go.RowKit
set_option linter.unusedVariables false
set_option linter.unusedSimpArgs false
variable {P : Program} {Γ : Con} {L : LH} {env : Env}
inductive Scr : Type 1 where
  | e
  | d (n : Nat) (s : Scr)
  | v (p : PV) (s : Scr)
  | q (s : Scr)
  | w (p : PV) (s : Scr)
  | c (r : PV) (s : Scr)
  | k (qs : List PV) (r : PV) (s : Scr)
  | x (r : PV) (s : Scr)
  | t (r : PV) (L' : LH) (s : Scr)
  | f (s t : Scr)
  | n (s : Scr)
  | z (t : Nat) (cs : List PV) (s : Scr)
  | l {ι : Type} (I : ι → Env × LH) (inv : ι → Prop) (μ : ι → Nat) (m : List Nat) (b : ι → Scr)
  | a (m : List Nat)
  | s (n : Nat) {ι : Type} (I : ι → Env × LH) (inv : ι → Prop) (s : Scr) (b : ι → Scr)
  | u (n : Nat) (s : Scr)
  | g (p q : Nat) (m : List Nat) (s t : Scr)
  | h (keep : List Nat) (s : Scr)
  | r (id : Nat) (cs : List PV) (s : Scr)
  | y (t sz : Nat) (s : Scr)
  | yc (id j sz : Nat) (s : Scr)
  | zc (id j : Nat) (cs : List PV) (s : Scr)
  | mc (id j : Nat) (s : Scr)
  | o {ε : Type} (I : Env) (S : List ε → LH) (ok : ε → Prop) (pv : ε → PV) (els : List ε) (q : Nat) (m : List Nat) (s : Scr) (b : List ε → ε → Scr)
def strip : Scr → Scr
  | .d 0 s => strip s
  | s => s
def dec : Scr → Scr
  | .d (n + 1) s => .d n s
  | s => s
def fNl : List Nat → Nat → (Nat → Prop) → Prop
  | [], n, k => k n
  | a :: l, n, k => bif Nat.beq n a then k a else fNl l n k
theorem fNl_eq : ∀ {l : List Nat} {n : Nat} {k : Nat → Prop}, fNl l n k = k n
  | [], _, _ => rfl
  | a :: l, n, k => by
    unfold fNl
    cases hb : Nat.beq n a with
    | true => rw [Nat.eq_of_beq_eq_true hb]; rfl
    | false => exact fNl_eq
def fN (n : Nat) (k : Nat → Prop) : Prop := fNl [0, 1, 2, 3, 4, 5, 6, 7, 8, 9, 10, 11, 12, 13, 14, 15, 16, 17, 18, 19, 20, 21, 22, 23, 24, 25, 26, 27, 28, 29, 30, 31, 32, 33, 34, 35, 36, 37, 38, 39, 40, 41, 42, 43, 44, 45, 46, 47, 48, 49, 50, 51, 52, 53, 54, 55, 56, 57, 58, 59, 60] n k
theorem fN_eq {n : Nat} {k : Nat → Prop} : fN n k = k n := fNl_eq
def fP (env : Env) (dst : Option Nat) (v : PV) (k : Env → Prop) : Prop :=
  match dst with
  | some d => k ((d, v) :: env)
  | none => k env
theorem fP_eq {env : Env} {dst : Option Nat} {v : PV} {k : Env → Prop} : fP env dst v k = k (putIn env dst v) := by cases dst <;> rfl
def fV (p : PV) (k : PV → Prop) : Prop :=
  match p with
  | .any => k .any
  | .lit v => match v with
    | .int kd n => k (.lit (.int kd n))
    | .bool b => k (.lit (.bool b))
    | v => k (.lit v)
  | .ro n c => k (.ro n c)
  | .own a b c d => fN a fun a => k (.own a b c d)
  | .ptr a b => fN a fun a => k (.ptr a b)
  | .rptr c => k (.rptr c)
  | .agg c => k (.agg c)
  | .tup c => k (.tup c)
  | .fn a b c => k (.fn a b c)
  | .new a b c => k (.new a b c)
theorem fV_eq {p : PV} {k : PV → Prop} : fV p k = k p := by
  cases p <;> try rfl
  · rename_i v
    cases v <;> rfl
  · exact fN_eq
  · exact fN_eq
def fW (o : Op) (p : PV) (k : PV → Prop) : Prop :=
  match o with
  | .indexAddr _ _ _ => match p with
    | .ptr a b => fN a fun a => fN b fun b => k (.ptr a b)
    | p => fV p k
  | .fieldAddr _ _ _ => match p with
    | .ptr a b => fN a fun a => fN b fun b => k (.ptr a b)
    | p => fV p k
  | _ => fV p k
theorem fW_eq {o : Op} {p : PV} {k : PV → Prop} : fW o p k = k p := by
  unfold fW
  split
  · split
    · rw [fN_eq, fN_eq]
    · exact fV_eq
  · split
    · rw [fN_eq, fN_eq]
    · exact fV_eq
  · exact fV_eq
def fL : LH → (LH → Prop) → Prop
  | [], k => k []
  | .dead :: r, k => fL r fun r => k (.dead :: r)
  | .cells c :: r, k => fL r fun r => k (.cells c :: r)
theorem fL_eq : ∀ {L : LH} {k : LH → Prop}, fL L k = k L
  | [], _ => rfl
  | .dead :: r, k => by rw [fL, fL_eq]
  | .cells c :: r, k => by rw [fL, fL_eq]
def fK (env : Env) : List Nat → (Env → Prop) → Prop
  | [], k => k []
  | t :: r, k => fV (lookup env t) fun v => fK env r fun e => k ((t, v) :: e)
def narrow (keep : List Nat) (env : Env) : Env := keep.map fun t => (t, lookup env t)
theorem fK_eq : ∀ {keep : List Nat} {k : Env → Prop}, fK env keep k = k (narrow keep env)
  | [], _ => rfl
  | t :: r, k => by rw [fK, fV_eq, fK_eq]; rfl
theorem lookup_narrow : ∀ (keep : List Nat) (env : Env) (t : Nat), lookup (narrow keep env) t = .any ∨ lookup (narrow keep env) t = lookup env t
  | [], _, _ => .inl rfl
  | i :: r, env, t => by
    simp only [narrow, List.map_cons, lookup]
    cases hb : (i == t) with
    | true => have := eq_of_beq hb; subst this; exact .inr rfl
    | false => exact lookup_narrow r env t
def conj : List Prop → Prop → Prop
  | [], k => k
  | a :: l, k => a ∧ conj l k
def conj1 : List Prop → Prop
  | [] => True
  | [a] => a
  | a :: l => a ∧ conj1 l
theorem conj_eq : ∀ {l : List Prop} {k : Prop}, conj l k → (∀ a ∈ l, a) ∧ k
  | [], k, h => ⟨by simp, h⟩
  | a :: l, k, h => ⟨fun b hb => by
      rcases List.mem_cons.1 hb with rfl | hb
      · exact h.1
      · exact (conj_eq h.2).1 b hb, (conj_eq h.2).2⟩
theorem conj1_eq : ∀ {l : List Prop}, conj1 l → ∀ a ∈ l, a
  | [], _ => by simp
  | [a], h => fun c hc => by have := List.mem_singleton.1 hc; subst this; exact h
  | a :: b :: l, h => fun c hc => by
      rcases List.mem_cons.1 hc with rfl | hc
      · exact h.1
      · exact conj1_eq (l := b :: l) h.2 c hc
def natO : Option Nat → Nat → Bool
  | some i, j => Nat.beq i j
  | none, _ => false
theorem natO_eq {o : Option Nat} {j : Nat} (h : natO o j = true) : o = some j := by
  cases o with
  | none => cases h
  | some i => rw [Nat.eq_of_beq_eq_true h]
def both (a b : Bool × List Prop) : Bool × List Prop := (a.1 && b.1, a.2 ++ b.2)
def wkV (m : List Nat) (p q : PV) : Bool × List Prop :=
  match q with
  | .any => (true, [])
  | .own k off' n' sz' => match p with
    | .own id off n sz => (natO m[k]? id && Nat.beq off off' && Nat.beq sz sz', [n = n'])
    | _ => (false, [])
  | .ptr k off' => match p with
    | .ptr id off => (natO m[k]? id && Nat.beq off off', [])
    | _ => (false, [])
  | .lit (.int k' b) => match p with
    | .lit (.int k a) => (decide (k = k'), [a = b])
    | _ => (false, [])
  | q => (true, [p = q, closed q = true])
theorem wkV_ok {m : List Nat} {p q : PV} (h : (wkV m p q).1 = true) (hp : ∀ a ∈ (wkV m p q).2, a) : RenOk m p q := by
  unfold wkV at h hp
  split at h
  · exact .inl rfl
  · split at h
    · simp only [Bool.and_eq_true] at h
      have h1 := natO_eq h.1.1
      have h2 := Nat.eq_of_beq_eq_true h.1.2
      have h3 := Nat.eq_of_beq_eq_true h.2
      have h4 := hp _ (List.mem_singleton.2 rfl)
      subst h2 h3
      exact .inr (.inr (.inl ⟨_, _, _, _, _, rfl, h1, by rw [h4]⟩))
    · cases h
  · split at h
    · simp only [Bool.and_eq_true] at h
      have h1 := natO_eq h.1
      have h2 := Nat.eq_of_beq_eq_true h.2
      subst h2
      exact .inr (.inr (.inr (.inl ⟨_, _, _, rfl, h1, rfl⟩)))
    · cases h
  · split at h
    · simp only [decide_eq_true_eq] at h
      have h4 := hp _ (List.mem_singleton.2 rfl)
      subst h
      subst h4
      exact .inr (.inl ⟨rfl, rfl⟩)
    · cases h
  · have h1 := hp (p = q) (by simp)
    have h2 := hp (closed q = true) (by simp)
    exact .inr (.inl ⟨by rw [h1]; exact h2, h1.symm⟩)
def hasN : List Nat → Nat → Bool
  | [], _ => false
  | a :: l, t => Nat.beq a t || hasN l t
def wkE (m : List Nat) (env : Env) : List Nat → Env → Bool × List Prop
  | _, [] => (true, [])
  | seen, (t, q) :: r => bif hasN seen t then wkE m env seen r else both (wkV m (lookup env t) q) (wkE m env (t :: seen) r)
theorem both_ok {a b : Bool × List Prop} (h : (both a b).1 = true) (hp : ∀ x ∈ (both a b).2, x) : (a.1 = true ∧ ∀ x ∈ a.2, x) ∧ (b.1 = true ∧ ∀ x ∈ b.2, x) := by
  simp only [both, Bool.and_eq_true] at h
  exact ⟨⟨h.1, fun x hx => hp x (List.mem_append_left _ hx)⟩, ⟨h.2, fun x hx => hp x (List.mem_append_right _ hx)⟩⟩
theorem wkE_ok {m : List Nat} : ∀ {env2 : Env} {seen : List Nat}, (wkE m env seen env2).1 = true → (∀ a ∈ (wkE m env seen env2).2, a) →
    ∀ t, hasN seen t = false → lookup env2 t = .any ∨ RenOk m (lookup env t) (lookup env2 t)
  | [], _, _, _ => fun t _ => .inl rfl
  | (i, q) :: r, seen, h, hp => fun t ht => by
    simp only [wkE] at h hp
    simp only [lookup]
    cases hs : hasN seen i with
    | true =>
      rw [hs] at h hp
      simp only [cond_true] at h hp
      have hne : (i == t) = false := by
        cases hb : (i == t) with
        | false => rfl
        | true => rw [eq_of_beq hb, ht] at hs; cases hs
      rw [hne]
      exact wkE_ok h hp t ht
    | false =>
      rw [hs] at h hp
      simp only [cond_false] at h hp
      obtain ⟨h1, h2⟩ := both_ok h hp
      cases hb : (i == t) with
      | true =>
        have := eq_of_beq hb
        subst this
        exact .inr (wkV_ok h1.1 h1.2)
      | false =>
        refine wkE_ok h2.1 h2.2 t ?_
        have : Nat.beq i t = false := by
          cases hh : Nat.beq i t with
          | false => rfl
          | true => rw [Nat.eq_of_beq_eq_true hh, beq_self_eq_true] at hb; cases hb
        simp [hasN, this, ht]
def unf (m : List Nat) : List Nat := m.map fun i => i % 1000
def wkR (L : LH) (mu : List Nat) : List Nat → LH → Bool × List Prop
  | [], [] => (true, [])
  | _ :: m, .dead :: L2 => wkR L mu m L2
  | i :: m, .cells cs :: L2 => bif Nat.blt i 1000 then
      match L[i]? with
      | some (.cells c0) => both (true, [c0 = cs, closedL cs = true]) (wkR L mu m L2)
      | _ => (false, [])
    else match L[i % 1000]? with
      | some (.cells c0) => both (true, [okRL mu c0 = true, renL mu c0 = cs]) (wkR L mu m L2)
      | _ => (false, [])
  | _, _ => (false, [])
theorem wkR_ok {mu : List Nat} : ∀ {m : List Nat} {L2 : LH}, (wkR L mu m L2).1 = true → (∀ a ∈ (wkR L mu m L2).2, a) →
    L2.length = (unf m).length ∧ ∀ (k i : Nat) cs, (unf m)[k]? = some i → L2[k]? = some (.cells cs) → (L[i]? = some (.cells cs) ∧ closedL cs = true) ∨ ∃ cs0, L[i]? = some (.cells cs0) ∧ okRL mu cs0 = true ∧ renL mu cs0 = cs
  | [], [], _, _ => ⟨rfl, fun k i cs h => by simp [unf] at h⟩
  | [], x :: _, h, _ => by cases x <;> cases h
  | _ :: _, [], h, _ => by cases h
  | i :: m, .dead :: L2, h, hp => by
    obtain ⟨e1, e2⟩ := wkR_ok (m := m) (L2 := L2) h hp
    refine ⟨by simpa [unf] using e1, fun k j cs hk hL => ?_⟩
    cases k with
    | zero => simp at hL
    | succ k => exact e2 k j cs (by simpa [unf] using hk) (by simpa using hL)
  | i :: m, .cells cs0 :: L2, h, hp => by
    unfold wkR at h hp
    cases hb : Nat.blt i 1000 with
    | true =>
      have hi : i % 1000 = i := Nat.mod_eq_of_lt (Nat.le_of_ble_eq_true hb)
      rw [hb] at h hp
      simp only [cond_true] at h hp
      split at h
      · rename_i c0 hc
        simp only [hc] at hp
        obtain ⟨h1, h2⟩ := both_ok h hp
        have a1 := h1.2 (c0 = cs0) (by simp)
        have a2 := h1.2 (closedL cs0 = true) (by simp)
        obtain ⟨e1, e2⟩ := wkR_ok (m := m) (L2 := L2) h2.1 h2.2
        refine ⟨by simpa [unf] using e1, fun k j cs hk hL => ?_⟩
        cases k with
        | zero =>
          simp [unf, hi] at hk hL; subst hk hL
          exact .inl ⟨by rw [hc, a1], a2⟩
        | succ k => exact e2 k j cs (by simpa [unf] using hk) (by simpa using hL)
      · cases h
    | false =>
      rw [hb] at h hp
      simp only [cond_false] at h hp
      split at h
      · rename_i c0 hc
        simp only [hc] at hp
        obtain ⟨h1, h2⟩ := both_ok h hp
        have a1 := h1.2 (okRL mu c0 = true) (by simp)
        have a2 := h1.2 (renL mu c0 = cs0) (by simp)
        obtain ⟨e1, e2⟩ := wkR_ok (m := m) (L2 := L2) h2.1 h2.2
        refine ⟨by simpa [unf] using e1, fun k j cs hk hL => ?_⟩
        cases k with
        | zero =>
          simp [unf] at hk hL; subst hk hL
          exact .inr ⟨c0, hc, a1, a2⟩
        | succ k => exact e2 k j cs (by simpa [unf] using hk) (by simpa using hL)
      · cases h
def nodupB : List Nat → Bool
  | [] => true
  | a :: l => !hasN l a && nodupB l
theorem hasN_mem : ∀ {l : List Nat} {t : Nat}, t ∈ l → hasN l t = true
  | a :: l, t, h => by
    rcases List.mem_cons.1 h with rfl | h
    · simp [hasN, Nat.beq_refl]
    · simp [hasN, hasN_mem h]
theorem nodupB_ok : ∀ {l : List Nat}, nodupB l = true → l.Nodup
  | [], _ => by simp
  | a :: l, h => by
    simp only [nodupB, Bool.and_eq_true, Bool.not_eq_true'] at h
    refine List.nodup_cons.2 ⟨fun hm => ?_, nodupB_ok h.2⟩
    rw [hasN_mem hm] at h
    cases h.1
def wk (n : Nat) (m : List Nat) (env : Env) (L : LH) (env2 : Env) (L2 : LH) : Bool × List Prop :=
  both (nodupB (unf m) && (unf m).all (fun i => Nat.blt i L.length) && (List.range n).all (fun i => natO (unf m)[i]? i), []) (both (wkR L (unf m) m L2) (wkE (unf m) env [] env2))
theorem wk_ok {n : Nat} {m : List Nat} {env2 : Env} {L2 : LH} (h : (wk n m env L env2 L2).1 = true) (hp : ∀ a ∈ (wk n m env L env2 L2).2, a) : Weak n (unf m) env L env2 L2 := by
  obtain ⟨h1, h2⟩ := both_ok h hp
  obtain ⟨h3, h4⟩ := both_ok h2.1 h2.2
  simp only [Bool.and_eq_true] at h1
  obtain ⟨r1, r2⟩ := wkR_ok h3.1 h3.2
  exact ⟨fun i hi => natO_eq (List.all_eq_true.1 h1.1.2 i (by simpa using hi)), nodupB_ok h1.1.1.1,
    fun i hi => Nat.le_of_ble_eq_true (List.all_eq_true.1 h1.1.1.2 i hi), r1, r2, fun x hx hl => by
    rcases wkE_ok h4.1 h4.2 x.1 rfl with h | h
    · rw [← hl, h]; exact .inl rfl
    · rw [← hl]; exact h⟩
def xW (w : Bool × List Prop) : Prop := match w.1 with
  | true => conj1 w.2
  | false => False
theorem xW_ok {n : Nat} {m : List Nat} {env2 : Env} {L2 : LH} (h : xW (wk n m env L env2 L2)) : Weak n (unf m) env L env2 L2 := by
  unfold xW at h
  split at h
  · rename_i hb; exact wk_ok hb (conj1_eq h)
  · exact h.elim
def setB : Env → Nat → Bool → Env
  | [], _, _ => []
  | (i, p) :: r, g, b => bif Nat.beq i g then (i, .lit (.bool b)) :: r else (i, p) :: setB r g b
theorem setB_eq {g : Nat} {b : Bool} : ∀ {env : Env}, lookup env g = .lit (.bool b) → setB env g b = env
  | [], _ => rfl
  | (i, p) :: r, h => by
    simp only [lookup] at h
    simp only [setB]
    cases hb : Nat.beq i g with
    | true =>
      have := Nat.eq_of_beq_eq_true hb
      subst this
      simp only [beq_self_eq_true, cond_true] at h
      simp [h]
    | false =>
      have hne : (i == g) = false := by
        cases hh : (i == g) with
        | false => rfl
        | true => rw [eq_of_beq hh, Nat.beq_refl] at hb; cases hb
      rw [hne] at h
      simp only [cond_false] at h ⊢
      rw [setB_eq h]
def xGuard (all : List Oper) (gd : Option (Nat × Bool)) (s : Scr) (env : Env) (k : Bool → Scr → Env → Prop) : Prop :=
  match gd with
  | none => k true s env
  | some (j, want) => match (all[j]?).bind (·.dst) with
    | some g => match lookup env g with
      | .lit (.bool b) => match strip s with
        | .f s1 s2 => (b = true → k (true == want) s1 (setB env g true)) ∧ (b = false → k (false == want) s2 (setB env g false))
        | s => match b with
          | true => k (true == want) s env
          | false => k (false == want) s env
      | .lit (.tuple _) => k false s env
      | _ => False
    | none => False
theorem xGuard_ok {all : List Oper} {o : Oper} {s : Scr} {k : Bool → Scr → Env → Prop} (h : xGuard all o.guard s env k) : ∃ b s', GuardIs all env o b ∧ k b s' env := by
  unfold xGuard at h
  split at h
  · rename_i hg; exact ⟨true, s, .inl ⟨hg, rfl⟩, h⟩
  · rename_i j want hg
    split at h
    · rename_i g hj
      split at h
      · rename_i b hl
        split at h
        · cases b with
          | true =>
            have := h.1 rfl
            rw [setB_eq hl] at this
            exact ⟨_, _, .inr ⟨j, want, g, hg, hj, .inl ⟨true, hl, rfl⟩⟩, this⟩
          | false =>
            have := h.2 rfl
            rw [setB_eq hl] at this
            exact ⟨_, _, .inr ⟨j, want, g, hg, hj, .inl ⟨false, hl, rfl⟩⟩, this⟩
        · split at h
          · exact ⟨_, _, .inr ⟨j, want, g, hg, hj, .inl ⟨true, hl, rfl⟩⟩, h⟩
          · exact ⟨_, _, .inr ⟨j, want, g, hg, hj, .inl ⟨false, hl, rfl⟩⟩, h⟩
      · rename_i vs hl
        exact ⟨false, s, .inr ⟨j, want, g, hg, hj, .inr ⟨vs, hl, rfl⟩⟩, h⟩
      · exact h.elim
    · exact h.elim
def xPlain (P : Program) (dr : Bool) (o : Op) (s : Scr) (env : Env) (L : LH) (k : Scr → PV → LH → Prop) : Prop :=
  match strip s with
  | .v p s => match opB P dr (evalIn env) L o with
    | true => (opF P noCon dr (evalIn env) L o).val = p ∧ fL (opF P noCon dr (evalIn env) L o).L fun L' => k s p L'
    | false => False
  | .q s => (opF P noCon dr (evalIn env) L o).pre ∧ fV (opF P noCon dr (evalIn env) L o).val fun v => fL (opF P noCon dr (evalIn env) L o).L fun L' => k s v L'
  | .w p s => (opF P noCon dr (evalIn env) L o).pre ∧ (opF P noCon dr (evalIn env) L o).val = p ∧ fL (opF P noCon dr (evalIn env) L o).L fun L' => k s p L'
  | .d (n + 1) s => match opB P dr (evalIn env) L o with
    | true => fW o (opF P noCon dr (evalIn env) L o).val fun v => fL (opF P noCon dr (evalIn env) L o).L fun L' => k (.d n s) v L'
    | false => False
  | .e => match opB P dr (evalIn env) L o with
    | true => fW o (opF P noCon dr (evalIn env) L o).val fun v => fL (opF P noCon dr (evalIn env) L o).L fun L' => k .e v L'
    | false => False
  | _ => False
theorem xPlain_ok {dr : Bool} {o : Op} {s : Scr} {k : Scr → PV → LH → Prop} (h : xPlain P dr o s env L k) :
    ∃ s' v L', ((opF P noCon dr (evalIn env) L o).pre ∧ v = (opF P noCon dr (evalIn env) L o).val ∧ L' = (opF P noCon dr (evalIn env) L o).L) ∧ k s' v L' := by
  unfold xPlain at h
  split at h
  · split at h
    · rename_i hb
      rw [fL_eq] at h
      exact ⟨_, _, _, ⟨opB_pre hb, h.1.symm, rfl⟩, h.2⟩
    · exact h.elim
  · rw [fV_eq, fL_eq] at h
    exact ⟨_, _, _, ⟨h.1, rfl, rfl⟩, h.2⟩
  · rw [fL_eq] at h
    exact ⟨_, _, _, ⟨h.1, h.2.1.symm, rfl⟩, h.2.2⟩
  · split at h
    · rename_i hb
      rw [fW_eq, fL_eq] at h
      exact ⟨_, _, _, ⟨opB_pre hb, rfl, rfl⟩, h⟩
    · exact h.elim
  · split at h
    · rename_i hb
      rw [fW_eq, fL_eq] at h
      exact ⟨_, _, _, ⟨opB_pre hb, rfl, rfl⟩, h⟩
    · exact h.elim
  · exact h.elim
end Go.Ab
