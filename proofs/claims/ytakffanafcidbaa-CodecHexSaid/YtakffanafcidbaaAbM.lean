import Derived.Test.YtakffanafcidbaaAbL
namespace Go.Ab
open Go Go.RowKit
set_option linter.unusedVariables false
set_option linter.unusedSimpArgs false

variable {P : Program} {Γ : Con} {X : Nat → Prop} {β : List Base} {L : LH} {N : Nat} {w : World}

/-- A result, as the caller gets it. -/
def shut (L : LH) (p : PV) : Prop × PV :=
  match p with
  | .own id off n sz => ((slc L (.own id off n sz)).1 ∧ clrOk (L.set id .dead) 3 (slc L (.own id off n sz)).2.2, .new n sz (clr (L.set id .dead) 3 (slc L (.own id off n sz)).2.2))
  | .tup (.own id off n sz :: rs) => ((slc L (.own id off n sz)).1 ∧ clrOk (L.set id .dead) 3 (slc L (.own id off n sz)).2.2 ∧ clrOk (L.set id .dead) 4 rs, .tup (.new n sz (clr (L.set id .dead) 3 (slc L (.own id off n sz)).2.2) :: clr (L.set id .dead) 4 rs))
  | .tup rs => (clrOk L 4 rs, .tup (clr L 4 rs))
  | p => (borrowOk L p, borrow L p)

/-- A row of the call's own, as a result. 'L1', 'β1': the others. -/
theorem shut_own {id off n sz : Nat} {v : Value} {w0 : World} (hH : RepH X β w L) (h : RepV X β w (.own id off n sz) v) (hfresh : ∀ b, Live β b → w0.heap.size ≤ b)
    (hok : (slc L (.own id off n sz)).1) (hc : clrOk (L.set id .dead) 3 (slc L (.own id off n sz)).2.2) :
    NewRow X w0 w n sz (clr (L.set id .dead) 3 (slc L (.own id off n sz)).2.2) v ∧
    ∃ β1, RepH (fun x => X x ∨ blockOf v x) β1 w (L.set id .dead) ∧ ∀ p u, RepV X β w p u → RepV (fun x => X x ∨ blockOf v x) β1 w p u := by
  obtain ⟨cs, hL, hle⟩ : ∃ cs, L[id]? = some (.cells cs) ∧ off + n * sz ≤ cs.length := by
    have := hok
    unfold slc at this
    simp only at this
    split at this
    · rename_i cs h; exact ⟨cs, h, this⟩
    · exact this.elim
  have hsl : (slc L (.own id off n sz)).2.2 = (cs.drop off).take (n * sz) := by simp [slc, hL]
  rw [hsl] at hc ⊢
  rcases own_slice hH hL h with ⟨h1, rfl, rfl, rfl, rfl⟩ | ⟨b, base, c, el, cap, h1, rfl, hn, h2, h3, h4, h5⟩
  · obtain ⟨hk, g⟩ := repH_kill hH id
    have e : (fun x => X x ∨ blockOf (.slice none 0 0) x) = X := by funext x; simp [blockOf]
    rw [e]
    refine ⟨.inl ⟨rfl, rfl, ?_⟩, β.set id .dead, hk, fun p u hp => hp.grow g⟩
    simp [clr, closedL]
  · obtain ⟨hk, _, hnl, hlb⟩ := kill_apart hH h1
    have hrow := apartR h1 hH.inj b _ _ (row_sub h5 off (n * sz))
    obtain ⟨e1, e2⟩ := clr_row hk hrow hc
    have hlen : (clr (L.set id .dead) 3 ((cs.drop off).take (n * sz))).length = n * sz := by
      unfold clr
      cases closedL ((cs.drop off).take (n * sz)) <;> simp <;> omega
    have e : (fun x => X x ∨ blockOf (.slice (some ⟨b, base + off, none⟩) n cap) x) = (fun x => X x ∨ x = b) := by funext x; simp [blockOf]
    rw [e]
    have hnc : n * sz ≤ cap * sz := Nat.mul_le_mul_right _ hn
    exact ⟨.inr ⟨b, base + off, cap, c, el, rfl, hn, hfresh b hlb, h2, by omega, by rw [hlen]; omega, e1, e2⟩, β.set id .dead, hk, fun p u hp => apartV h1 hH.inj p u hp⟩

theorem repR_plain {r : PV} {v : Value} {w0 : World} (hc : closed r = true) (h : RepV X [] w r v) : RepR X w0 w r v := by
  unfold RepR
  split
  · simp [closed] at hc
  · simp [closed, closedL] at hc
  · exact ⟨hc, h⟩

theorem shut_rep {p : PV} {v : Value} {w0 : World} (hH : RepH X β w L) (h : RepV X β w p v) (hfresh : ∀ b, Live β b → w0.heap.size ≤ b) (hok : (shut L p).1) : RepR X w0 w (shut L p).2 v := by
  unfold shut at hok ⊢
  split
  · rename_i id off n sz
    simp only at hok
    simp only [RepR]
    exact (shut_own hH h hfresh hok.1 hok.2).1
  · rename_i id off n sz rs
    simp only at hok
    simp only [RepV, RepL] at h
    obtain ⟨vs, rfl, v0, r, rfl, h0, hrs⟩ := h
    have h0' : RepV X β w (.own id off n sz) v0 := by simp only [RepV]; exact h0
    obtain ⟨e1, β1, hk, hall⟩ := shut_own hH h0' hfresh hok.1 hok.2.1
    simp only [RepR]
    have hrs' : RepL (fun x => X x ∨ blockOf v0 x) β1 w rs r := by
      rw [RepL.iff] at hrs ⊢
      exact ⟨hrs.1, fun i q u hq hu => hall q u (hrs.2 i q u hq hu)⟩
    obtain ⟨e2, e3⟩ := clr_list hk hrs' hok.2.2
    exact ⟨v0, r, rfl, e1, e2, e3⟩
  · rename_i rs hne
    simp only at hok
    simp only [RepV] at h
    obtain ⟨vs, rfl, hrs⟩ := h
    obtain ⟨e2, e3⟩ := clr_list hH hrs hok
    exact repR_plain (by simpa [closed] using e2) (by simp only [RepV]; exact ⟨vs, rfl, e3⟩)
  · simp only at hok
    obtain ⟨e1, e2⟩ := borrow_rep hH h hok
    exact repR_plain e2 e1

/-- The slots of the arguments. -/
def entry : Nat → List PV → Env
  | _, [] => []
  | i, p :: r => (i, p) :: entry (i + 1) r

theorem entry_lookup {ps : List PV} {vs : List Value} (h : RepL X [] w ps vs) (rest : List Value) : ∀ (k : Nat) (t : Nat), RepV X [] w (lookup (entry k ps) t) (if k ≤ t then ((vs ++ rest).getD (t - k) undef) else undef) := by
  induction ps generalizing vs with
  | nil => intro k t; simp [entry, lookup, RepV]
  | cons p ps ih =>
    intro k t
    simp only [RepL] at h
    obtain ⟨v, r, rfl, h1, h2⟩ := h
    simp only [entry, lookup]
    cases hb : Nat.beq k t with
    | true =>
      have := Nat.eq_of_beq_eq_true hb
      subst this
      simpa using h1
    | false =>
      have hne : k ≠ t := fun e => by subst e; simp [Nat.beq_refl] at hb
      have := ih h2 (k + 1) t
      simp only [cond_false]
      by_cases hk : k + 1 ≤ t
      · rw [if_pos hk] at this
        rw [if_pos (by omega)]
        rw [show t - k = (t - (k + 1)) + 1 by omega]
        simpa using this
      · rw [if_neg hk] at this
        rw [if_neg (by omega)]
        exact this

/-- One result: a slot, or what stands in a variable. -/
def resOne (P : Program) (env : Env) (L : LH) : ResultVar → Prop × PV
  | .tmp t => (True, lookup env t)
  | .cell a t => ((loadF P t (lookup env a) L).pre, (loadF P t (lookup env a) L).val)

def resAll (P : Program) (env : Env) (L : LH) : List ResultVar → Prop
  | [] => True
  | r :: rs => (resOne P env L r).1 ∧ resAll P env L rs

def resPV (P : Program) (fn : Func) (env : Env) (L : LH) : PV :=
  match fn.results.toList with
  | [r] => (resOne P env L r).2
  | rs => .tup (rs.map fun r => (resOne P env L r).2)

theorem loadVar_of_still {t : TypeId} {v va u : Value} (hs : (Instr.loadAt t va).run P w = .ok u w) : ∃ a, va = .pointer (some a) ∧ (loadVar t a).run P w = .ok u w := by
  cases va with
  | pointer a => cases a with
    | some a => exact ⟨a, rfl, by simpa [Instr.loadAt, Instr.sureAddr] using hs⟩
    | none => simp [Instr.loadAt, Instr.sureAddr, stuck] at hs
  | _ => simp [Instr.loadAt, Instr.sureAddr, stuck] at hs

theorem results_run {fn : Func} {env : Env} {a : Act} (hp : resAll P env L fn.results.toList) (hA : RepA N X β w env a) (hH : RepH X β w L) : ∃ v, (results fn a.tmps).run P w = .ok v w ∧ RepV X β w (resPV P fn env L) v := by
  have one : ∀ r, (resOne P env L r).1 → ∃ v, (match r with | .tmp t => pure (a.tmps.getD t undef) | .cell x t => do loadVar t (← asAddr (a.tmps.getD x undef)) : Sem Value).run P w = .ok v w ∧ RepV X β w (resOne P env L r).2 v := by
    intro r hr
    cases r with
    | tmp t => exact ⟨_, rfl, hA.slot t⟩
    | cell x t =>
      obtain ⟨u, h1, h2, _⟩ := loadF_still (X := X) (β := β) (w := w) t _ _ hr hH (hA.slot x)
      obtain ⟨ad, h3, h4⟩ := loadVar_of_still (v := u) h1
      exact ⟨u, by simp only [h3]; simp [asAddr, h4], h2⟩
  have many : ∀ rs : List ResultVar, resAll P env L rs → ∃ vs : List Value, (rs.mapM (fun r => (match r with | .tmp t => pure (a.tmps.getD t undef) | .cell x t => do loadVar t (← asAddr (a.tmps.getD x undef)) : Sem Value))).run P w = .ok vs w ∧ RepL X β w (rs.map fun r => (resOne P env L r).2) vs := by
    intro rs
    induction rs with
    | nil => intro _; exact ⟨[], by simp, by simp [RepL]⟩
    | cons r rs ih =>
      intro h
      obtain ⟨v, h1, h2⟩ := one r h.1
      obtain ⟨vs, h3, h4⟩ := ih h.2
      refine ⟨v :: vs, ?_, by simp only [List.map_cons, RepL]; exact ⟨v, vs, rfl, h2, h4⟩⟩
      rw [List.mapM_cons]
      simp only [Sem.run_bind, h1, Result.andThen_ok, h3, Sem.run_pure]
  obtain ⟨vs, h1, h2⟩ := many _ hp
  have hm : (fn.results.mapM (fun r => (match r with | .tmp t => pure (a.tmps.getD t undef) | .cell x t => do loadVar t (← asAddr (a.tmps.getD x undef)) : Sem Value))).run P w = .ok vs.toArray w := by
    rw [Array.mapM_eq_mapM_toList, Sem.run_map, h1]
    rfl
  have hm' : ∀ g : ResultVar → Sem Value, (∀ r, g r = (match r with | .tmp t => pure (a.tmps.getD t undef) | .cell x t => do loadVar t (← asAddr (a.tmps.getD x undef)) : Sem Value)) → (fn.results.mapM g).run P w = .ok vs.toArray w := by
    intro g hg
    rw [show g = _ from funext hg]
    exact hm
  have hlen := RepL.length h2
  unfold resPV
  split
  · rename_i r hr
    rw [hr] at h2 hlen
    simp only [List.map_cons, List.map_nil, RepL] at h2
    obtain ⟨v, r', rfl, h3, rfl⟩ := h2
    refine ⟨v, ?_, h3⟩
    unfold results
    simp only [Sem.run_bind]
    rw [hm' _ (fun r => by cases r <;> rfl)]
    simp
  · rename_i hne
    refine ⟨.tuple vs.toArray, ?_, by simp only [RepV]; exact ⟨vs, rfl, h2⟩⟩
    have h1' : ¬ vs.length = 1 := by
      intro h
      rw [h] at hlen
      simp at hlen
      cases hr : fn.results.toList with
      | nil => rw [← Array.length_toList, hr] at hlen; simp at hlen
      | cons r rs =>
        cases rs with
        | nil => exact hne r hr
        | cons _ _ => rw [← Array.length_toList, hr] at hlen; simp at hlen
    unfold results
    simp only [Sem.run_bind]
    rw [hm' _ (fun r => by cases r <;> rfl)]
    simp [h1']

/-- What a function's end must show. -/
def ShutOk (L : LH) (p r : PV) : Prop :=
  ((shut L p).1 ∧ (shut L p).2 = r) ∨ (p = .lit (.slice none 0 0) ∧ ∃ sz, r = .new 0 sz []) ∨
  (∃ rs sz, p = .tup (.lit (.slice none 0 0) :: rs) ∧ closedL rs = true ∧ r = .tup (.new 0 sz [] :: rs))

theorem shutOk_rep {p r : PV} {v : Value} {w0 : World} (hH : RepH X β w L) (h : RepV X β w p v) (hfresh : ∀ b, Live β b → w0.heap.size ≤ b) (hok : ShutOk L p r) : RepR X w0 w r v := by
  rcases hok with ⟨h1, rfl⟩ | ⟨rfl, sz, rfl⟩ | ⟨rs, sz, rfl, hc, rfl⟩
  · exact shut_rep hH h hfresh h1
  · simp only [RepV] at h; subst h
    simp only [RepR]
    exact .inl ⟨rfl, rfl, rfl⟩
  · simp only [RepV, RepL] at h
    obtain ⟨vs, rfl, v0, r, rfl, rfl, hrs⟩ := h
    simp only [RepR]
    refine ⟨_, r, rfl, .inl ⟨rfl, rfl, rfl⟩, hc, RepL.anti (fun b hb => ?_) rs r hc hrs⟩
    rcases hb with (hb | hb) | hb
    · exact .inl hb
    · exact hb.elim
    · exact absurd hb live_nil

def Fin (P : Program) (fn : Func) (r : PV) (e : Exit) (env : Env) (L : LH) : Prop :=
  (e = .normal ∨ e = .ret) ∧ resAll P env L fn.results.toList ∧ ShutOk L (resPV P fn env L) r

/-- A function's contract, from its text. -/
theorem pureOk_of (hΓ : GammaOk P Γ) (hm : P.follows .mixedOrders = true) {f : FuncId} {fn : Func} {c : Code} {S : List PV → Prop × PV} (hf : P.funcs[f]? = some fn) (hb : fn.body = some c) (hfit : fits fn.ntmps c = true)
    (hcall : ∀ (vs : Array Value) (w : World), (callFunc f vs).run P w = .ok (.enter f vs) w)
    (h : ∀ args, (S args).1 → args.length ≤ fn.ntmps ∧ Ex P Γ c (entry 0 args) [] (Fin P fn (S args).2)) : PureOk P f S where
  call := fun _ => hcall
  run := by
    intro args hS hcl X w vs hX hr
    obtain ⟨hlen, e, env', L', hrun, hfin⟩ := h args hS
    have hvl := RepL.length hr
    refine calls_of_wp hf hb ?_
    have hsz : (vs.toArray ++ Array.replicate (fn.ntmps - vs.toArray.size) undef).size = fn.ntmps := by simp; omega
    have hA : RepA fn.ntmps X [] w (entry 0 args) { tmps := vs.toArray ++ Array.replicate (fn.ntmps - vs.toArray.size) undef, defers := [] } := by
      refine ⟨hsz, rfl, fun t => ?_⟩
      have := entry_lookup hr (List.replicate (fn.ntmps - vs.length) undef) 0 t
      simp only [Nat.zero_le, if_true, Nat.sub_zero] at this
      have he : (vs.toArray ++ Array.replicate (fn.ntmps - vs.toArray.size) undef).getD t undef = (vs ++ List.replicate (fn.ntmps - vs.length) undef).getD t undef := by
        simp [List.getD, Array.getElem?_append, List.getElem?_append, Array.getElem?_replicate, List.getElem?_replicate]
      rw [he]; exact this
    have hH : RepH X [] w [] := ⟨rfl, by simp, fun b hb => absurd hb live_nil, fun b hb => ⟨hX b hb, live_nil⟩, by simp⟩
    refine wp_mono ((Run.sound hΓ hm hrun).1 fn.ntmps X [] w _ hfit hA hH) fun e1 a1 w1 he => ?_
    obtain ⟨rfl, β', h1, h2, h3⟩ := he
    obtain ⟨hex, hres, hs⟩ := hfin
    obtain ⟨v, hv, hrv⟩ := results_run (P := P) hres h1 h2
    have hfresh : ∀ b, Live β' b → w.heap.size ≤ b := fun b hb => by
      rcases h3.live b hb with h | h
      · exact absurd h live_nil
      · exact h
    have hR := shutOk_rep (w0 := w) h2 hrv hfresh hs
    have hg : Grow [] [] w w1 := ⟨h3.os, h3.tape, h3.output, h3.size, fun k hk _ => h3.block k hk live_nil, h3.shape, fun b hb => .inl hb, Nat.le_refl _, fun id x hid => by simp at hid⟩
    rcases hex with rfl | rfl <;> exact ⟨h1.defers, v, hv, v, rfl, hg, hR⟩

theorem pureOk_none {f : FuncId} {S : List PV → Prop × PV} (h : ∀ args, ¬ (S args).1) : PureOk P f S :=
  ⟨fun args hs => absurd hs (h args), fun ⟨args, hs⟩ => absurd hs (h args)⟩

/-- A nil slice is an empty one. -/
def nrm : PV → PV
  | .lit (.slice none 0 0) => .ro 0 []
  | p => p
def nrmC (S : List PV → Prop × PV) : List PV → Prop × PV := fun args => S (args.map nrm)

theorem nrm_rep {p : PV} {v : Value} (h : RepV X [] w p v) (hc : closed p = true) : RepV X [] w (nrm p) v ∧ closed (nrm p) = true := by
  unfold nrm
  split
  · simp only [RepV] at h; subst h
    exact ⟨by simp only [RepV]; exact ⟨none, 0, rfl, Nat.le_refl _, .inl (by trivial)⟩, rfl⟩
  · exact ⟨h, hc⟩

theorem pureOk_nrm {f : FuncId} {S : List PV → Prop × PV} (h : PureOk P f S) : PureOk P f (nrmC S) where
  call := fun ⟨args, hs⟩ => h.call ⟨_, hs⟩
  run := by
    intro args hS hcl X w vs hX hr
    have hrep : RepL X [] w (args.map nrm) vs ∧ closedL (args.map nrm) = true := by
      rw [closedL_iff] at hcl
      rw [RepL.iff] at hr
      constructor
      · rw [RepL.iff]
        refine ⟨by simp [hr.1], fun i p v hp hv => ?_⟩
        rw [List.getElem?_map, Option.map_eq_some_iff] at hp
        obtain ⟨q, hq, rfl⟩ := hp
        exact (nrm_rep (hr.2 i q v hq hv) (hcl q (List.mem_of_getElem? hq))).1
      · rw [closedL_iff]
        intro p hp
        rw [List.mem_map] at hp
        obtain ⟨q, hq, rfl⟩ := hp
        obtain ⟨i, hi⟩ := List.getElem?_of_mem hq
        have hlt : i < vs.length := by rw [hr.1]; exact (List.getElem?_eq_some_iff.1 hi).1
        exact (nrm_rep (hr.2 i q vs[i] hi (by simp [hlt])) (hcl q hq)).2
    exact h.run _ hS hrep.2 X w vs hX hrep.1

/-- Contracts by name. -/
def conOf : List (FuncId × (List PV → Prop × PV)) → Con
  | [], _ => fun _ => (False, .any)
  | (f, S) :: r, g => bif f.beq g then S else conOf r g

theorem conOf_ok : ∀ {l : List (FuncId × (List PV → Prop × PV))}, (∀ x ∈ l, PureOk P x.1 x.2) → GammaOk P (conOf l)
  | [], _ => fun f => pureOk_none (fun args => by simp [conOf])
  | (f, S) :: r, h => fun g => by
    simp only [conOf]
    cases hb : Nat.beq f g with
    | true =>
      have := Nat.eq_of_beq_eq_true hb
      subst this
      exact h (f, S) (by simp)
    | false => exact conOf_ok (fun x hx => h x (by simp [hx])) g

end Go.Ab
