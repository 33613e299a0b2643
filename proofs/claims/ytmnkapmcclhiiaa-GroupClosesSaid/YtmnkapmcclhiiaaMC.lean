import Derived.Test.YtmnkapmcclhiiaaMB
namespace Go.Ab
open Go Go.RowKit
set_option linter.unusedVariables false
set_option linter.unusedSimpArgs false
variable {P : Program} {Γ : Con} {X : Nat → Prop} {β : List Base} {L : LH} {N : Nat} {w : World}
def shut (L : LH) (p : PV) : Prop × PV :=
  match p with
  | .own id off n sz => ((slc L (.own id off n sz)).1 ∧ clrOk (L.set id .dead) 3 (slc L (.own id off n sz)).2.2, .new n sz (clr (L.set id .dead) 3 (slc L (.own id off n sz)).2.2))
  | .tup (.own id off n sz :: rs) => ((slc L (.own id off n sz)).1 ∧ clrOk (L.set id .dead) 3 (slc L (.own id off n sz)).2.2 ∧ clrOk (L.set id .dead) 4 rs, .tup (.new n sz (clr (L.set id .dead) 3 (slc L (.own id off n sz)).2.2) :: clr (L.set id .dead) 4 rs))
  | .tup rs => (clrOk L 4 rs, .tup (clr L 4 rs))
  | p => (borrowOk L p, borrow L p)
theorem shut_own {id off n sz : Nat} {v : Value} {w0 : World} (hH : RepH X β w L) (h : RepV X β w (.own id off n sz) v) (hfresh : ∀ b, Live β b → w0.heap.size ≤ b)
    (hok : (slc L (.own id off n sz)).1) (hc : clrOk (L.set id .dead) 3 (slc L (.own id off n sz)).2.2) :
    NewRow X w0 w n sz (clr (L.set id .dead) 3 (slc L (.own id off n sz)).2.2) v ∧
    ∃ β1, RepH (fun x => X x ∨ blockOf v x) β1 w (L.set id .dead) ∧ ∀ p u, RepV X β w p u → RepV (fun x => X x ∨ blockOf v x) β1 w p u := by
  obtain ⟨cs, hL, hle⟩ : ∃ cs, L[id]? = some (.cells cs) ∧ off + n * sz ≤ cs.length := by
    have := hok
    unfold slc at this
    simp only at this
    split at this
    · rename_i cs h; exact ⟨cs, h, this⟩
    · exact this.elim
  have hsl : (slc L (.own id off n sz)).2.2 = (cs.drop off).take (n * sz) := by simp [slc, hL]
  rw [hsl] at hc ⊢
  rcases own_slice hH hL h with ⟨h1, rfl, rfl, rfl, rfl⟩ | ⟨b, base, c, el, cap, h1, rfl, hn, h2, h3, h4, h5⟩
  · obtain ⟨hk, g⟩ := repH_kill hH id
    have e : (fun x => X x ∨ blockOf (.slice none 0 0) x) = X := by funext x; simp [blockOf]
    rw [e]
    refine ⟨.inl ⟨rfl, rfl, ?_⟩, β.set id .dead, hk, fun p u hp => hp.grow g⟩
    simp [clr, closedL]
  · obtain ⟨hk, _, hnl, hlb⟩ := kill_apart hH h1
    have hrow := apartR h1 hH.inj b _ _ (row_sub h5 off (n * sz))
    obtain ⟨e1, e2⟩ := clr_row hk hrow hc
    have hlen : (clr (L.set id .dead) 3 ((cs.drop off).take (n * sz))).length = n * sz := by
      unfold clr
      cases closedL ((cs.drop off).take (n * sz)) <;> simp <;> omega
    have e : (fun x => X x ∨ blockOf (.slice (some ⟨b, base + off, none⟩) n cap) x) = (fun x => X x ∨ x = b) := by funext x; simp [blockOf]
    rw [e]
    have hnc : n * sz ≤ cap * sz := Nat.mul_le_mul_right _ hn
    exact ⟨.inr ⟨b, base + off, cap, c, el, rfl, hn, hfresh b hlb, h2, by omega, by rw [hlen]; omega, e1, e2⟩, β.set id .dead, hk, fun p u hp => apartV h1 hH.inj p u hp⟩
theorem repR_plain {r : PV} {v : Value} {w0 : World} (hc : closed r = true) (h : RepV X [] w r v) : RepR X w0 w r v := by
  unfold RepR
  split
  · simp [closed] at hc
  · simp [closed, closedL] at hc
  · exact ⟨hc, h⟩
theorem shut_rep {p : PV} {v : Value} {w0 : World} (hH : RepH X β w L) (h : RepV X β w p v) (hfresh : ∀ b, Live β b → w0.heap.size ≤ b) (hok : (shut L p).1) : RepR X w0 w (shut L p).2 v := by
  unfold shut at hok ⊢
  split
  · rename_i id off n sz
    simp only at hok
    simp only [RepR]
    exact (shut_own hH h hfresh hok.1 hok.2).1
  · rename_i id off n sz rs
    simp only at hok
    simp only [RepV, RepL] at h
    obtain ⟨vs, rfl, v0, r, rfl, h0, hrs⟩ := h
    have h0' : RepV X β w (.own id off n sz) v0 := by simp only [RepV]; exact h0
    obtain ⟨e1, β1, hk, hall⟩ := shut_own hH h0' hfresh hok.1 hok.2.1
    simp only [RepR]
    have hrs' : RepL (fun x => X x ∨ blockOf v0 x) β1 w rs r := by
      rw [RepL.iff] at hrs ⊢
      exact ⟨hrs.1, fun i q u hq hu => hall q u (hrs.2 i q u hq hu)⟩
    obtain ⟨e2, e3⟩ := clr_list hk hrs' hok.2.2
    exact ⟨v0, r, rfl, e1, e2, e3⟩
  · rename_i rs hne
    simp only at hok
    simp only [RepV] at h
    obtain ⟨vs, rfl, hrs⟩ := h
    obtain ⟨e2, e3⟩ := clr_list hH hrs hok
    exact repR_plain (by simpa [closed] using e2) (by simp only [RepV]; exact ⟨vs, rfl, e3⟩)
  · simp only at hok
    obtain ⟨e1, e2⟩ := borrow_rep hH h hok
    exact repR_plain e2 e1
def entry : Nat → List PV → Env
  | _, [] => []
  | i, p :: r => (i, p) :: entry (i + 1) r
theorem entry_lookup {ps : List PV} {vs : List Value} (h : RepL X β w ps vs) (rest : List Value) : ∀ (k : Nat) (t : Nat), RepV X β w (lookup (entry k ps) t) (if k ≤ t then ((vs ++ rest).getD (t - k) undef) else undef) := by
  induction ps generalizing vs with
  | nil => intro k t; simp [entry, lookup, RepV]
  | cons p ps ih =>
    intro k t
    simp only [RepL] at h
    obtain ⟨v, r, rfl, h1, h2⟩ := h
    simp only [entry, lookup]
    cases hb : (k == t) with
    | true =>
      have := eq_of_beq hb
      subst this
      simpa using h1
    | false =>
      have hne : k ≠ t := fun e => by subst e; simp [beq_self_eq_true] at hb
      have := ih h2 (k + 1) t
      simp only [cond_false]
      by_cases hk : k + 1 ≤ t
      · rw [if_pos hk] at this
        rw [if_pos (by omega)]
        rw [show t - k = (t - (k + 1)) + 1 by omega]
        simpa using this
      · rw [if_neg hk] at this
        rw [if_neg (by omega)]
        exact this
def resOne (P : Program) (env : Env) (L : LH) : ResultVar → Prop × PV
  | .tmp t => (True, lookup env t)
  | .cell a t => ((loadF P t (lookup env a) L).pre, (loadF P t (lookup env a) L).val)
def resAll (P : Program) (env : Env) (L : LH) : List ResultVar → Prop
  | [] => True
  | r :: rs => (resOne P env L r).1 ∧ resAll P env L rs
def resPV (P : Program) (fn : Func) (env : Env) (L : LH) : PV :=
  match fn.results.toList with
  | [r] => (resOne P env L r).2
  | rs => .tup (rs.map fun r => (resOne P env L r).2)
theorem loadVar_of_still {t : TypeId} {v va u : Value} (hs : (Instr.loadAt t va).run P w = .ok u w) : ∃ a, va = .pointer (some a) ∧ (loadVar t a).run P w = .ok u w := by
  cases va with
  | pointer a => cases a with
    | some a => exact ⟨a, rfl, by simpa [Instr.loadAt, Instr.sureAddr] using hs⟩
    | none => simp [Instr.loadAt, Instr.sureAddr, stuck] at hs
  | _ => simp [Instr.loadAt, Instr.sureAddr, stuck] at hs
theorem results_run {fn : Func} {env : Env} {a : Act} (hp : resAll P env L fn.results.toList) (hA : RepA N X β w env a) (hH : RepH X β w L) : ∃ v, (results fn a.tmps).run P w = .ok v w ∧ RepV X β w (resPV P fn env L) v := by
  have one : ∀ r, (resOne P env L r).1 → ∃ v, (match r with | .tmp t => pure (a.tmps.getD t undef) | .cell x t => do loadVar t (← asAddr (a.tmps.getD x undef)) : Sem Value).run P w = .ok v w ∧ RepV X β w (resOne P env L r).2 v := by
    intro r hr
    cases r with
    | tmp t => exact ⟨_, rfl, hA.slot t⟩
    | cell x t =>
      obtain ⟨u, h1, h2, _⟩ := loadF_still (X := X) (β := β) (w := w) t _ _ hr hH (hA.slot x)
      obtain ⟨ad, h3, h4⟩ := loadVar_of_still (v := u) h1
      exact ⟨u, by simp only [h3]; simp [asAddr, h4], h2⟩
  have many : ∀ rs : List ResultVar, resAll P env L rs → ∃ vs : List Value, (rs.mapM (fun r => (match r with | .tmp t => pure (a.tmps.getD t undef) | .cell x t => do loadVar t (← asAddr (a.tmps.getD x undef)) : Sem Value))).run P w = .ok vs w ∧ RepL X β w (rs.map fun r => (resOne P env L r).2) vs := by
    intro rs
    induction rs with
    | nil => intro _; exact ⟨[], by simp, by simp [RepL]⟩
    | cons r rs ih =>
      intro h
      obtain ⟨v, h1, h2⟩ := one r h.1
      obtain ⟨vs, h3, h4⟩ := ih h.2
      refine ⟨v :: vs, ?_, by simp only [List.map_cons, RepL]; exact ⟨v, vs, rfl, h2, h4⟩⟩
      rw [List.mapM_cons]
      simp only [Sem.run_bind, h1, Result.andThen_ok, h3, Sem.run_pure]
  obtain ⟨vs, h1, h2⟩ := many _ hp
  have hm : (fn.results.mapM (fun r => (match r with | .tmp t => pure (a.tmps.getD t undef) | .cell x t => do loadVar t (← asAddr (a.tmps.getD x undef)) : Sem Value))).run P w = .ok vs.toArray w := by
    rw [Array.mapM_eq_mapM_toList, Sem.run_map, h1]
    rfl
  have hm' : ∀ g : ResultVar → Sem Value, (∀ r, g r = (match r with | .tmp t => pure (a.tmps.getD t undef) | .cell x t => do loadVar t (← asAddr (a.tmps.getD x undef)) : Sem Value)) → (fn.results.mapM g).run P w = .ok vs.toArray w := by
    intro g hg
    rw [show g = _ from funext hg]
    exact hm
  have hlen := RepL.length h2
  unfold resPV
  split
  · rename_i r hr
    rw [hr] at h2 hlen
    simp only [List.map_cons, List.map_nil, RepL] at h2
    obtain ⟨v, r', rfl, h3, rfl⟩ := h2
    refine ⟨v, ?_, h3⟩
    unfold results
    simp only [Sem.run_bind]
    rw [hm' _ (fun r => by cases r <;> rfl)]
    simp
  · rename_i hne
    refine ⟨.tuple vs.toArray, ?_, by simp only [RepV]; exact ⟨vs, rfl, h2⟩⟩
    have h1' : ¬ vs.length = 1 := by
      intro h
      rw [h] at hlen
      simp at hlen
      cases hr : fn.results.toList with
      | nil => rw [← Array.length_toList, hr] at hlen; simp at hlen
      | cons r rs =>
        cases rs with
        | nil => exact hne r hr
        | cons _ _ => rw [← Array.length_toList, hr] at hlen; simp at hlen
    unfold results
    simp only [Sem.run_bind]
    rw [hm' _ (fun r => by cases r <;> rfl)]
    simp [h1']
def ShutOk (L : LH) (p r : PV) : Prop :=
  ((shut L p).1 ∧ (shut L p).2 = r) ∨ (p = .lit (.slice none 0 0) ∧ ∃ sz, r = .new 0 sz []) ∨
  (∃ rs sz, p = .tup (.lit (.slice none 0 0) :: rs) ∧ closedL rs = true ∧ r = .tup (.new 0 sz [] :: rs))
theorem shutOk_rep {p r : PV} {v : Value} {w0 : World} (hH : RepH X β w L) (h : RepV X β w p v) (hfresh : ∀ b, Live β b → w0.heap.size ≤ b) (hok : ShutOk L p r) : RepR X w0 w r v := by
  rcases hok with ⟨h1, rfl⟩ | ⟨rfl, sz, rfl⟩ | ⟨rs, sz, rfl, hc, rfl⟩
  · exact shut_rep hH h hfresh h1
  · simp only [RepV] at h; subst h
    simp only [RepR]
    exact .inl ⟨rfl, rfl, rfl⟩
  · simp only [RepV, RepL] at h
    obtain ⟨vs, rfl, v0, r, rfl, rfl, hrs⟩ := h
    simp only [RepR]
    refine ⟨_, r, rfl, .inl ⟨rfl, rfl, rfl⟩, hc, RepL.anti (fun b hb => ?_) rs r hc hrs⟩
    rcases hb with (hb | hb) | hb
    · exact .inl hb
    · exact hb.elim
    · exact absurd hb live_nil
def Fin (P : Program) (fn : Func) (r : PV) (e : Exit) (env : Env) (L : LH) : Prop :=
  (e = .normal ∨ e = .ret) ∧ resAll P env L fn.results.toList ∧ ShutOk L (resPV P fn env L) r
theorem pureOk_of (hΓ : GammaOk P Γ) (hm : P.follows .mixedOrders = true) {f : FuncId} {fn : Func} {c : Code} {S : List PV → Prop × PV} (hf : P.funcs[f]? = some fn) (hb : fn.body = some c) (hfit : fits fn.ntmps c = true)
    (hcall : ∀ (vs : Array Value) (w : World), (callFunc f vs).run P w = .ok (.enter f vs) w)
    (h : ∀ args, (S args).1 → args.length ≤ fn.ntmps ∧ Ex P Γ c (entry 0 args) [] (Fin P fn (S args).2)) : PureOk P f S where
  call := fun _ => hcall
  run := by
    intro args hS hcl X w vs hX hr hG0
    obtain ⟨hlen, e, env', L', hrun, hfin⟩ := h args hS
    have hvl := RepL.length hr
    refine calls_of_wp hf hb ?_
    have hsz : (vs.toArray ++ Array.replicate (fn.ntmps - vs.toArray.size) undef).size = fn.ntmps := by simp; omega
    have hA : RepA fn.ntmps X [] w (entry 0 args) { tmps := vs.toArray ++ Array.replicate (fn.ntmps - vs.toArray.size) undef, defers := [] } := by
      refine ⟨hsz, rfl, fun t => ?_, hG0⟩
      have := entry_lookup hr (List.replicate (fn.ntmps - vs.length) undef) 0 t
      simp only [Nat.zero_le, if_true, Nat.sub_zero] at this
      have he : (vs.toArray ++ Array.replicate (fn.ntmps - vs.toArray.size) undef).getD t undef = (vs ++ List.replicate (fn.ntmps - vs.length) undef).getD t undef := by
        simp [List.getD, Array.getElem?_append, List.getElem?_append, Array.getElem?_replicate, List.getElem?_replicate]
      rw [he]; exact this
    have hH : RepH X [] w [] := ⟨rfl, by simp, fun b hb => absurd hb live_nil, fun b hb => ⟨hX b hb, live_nil⟩, by simp⟩
    refine wp_mono ((Run.sound hΓ hm hrun).1 fn.ntmps X [] w _ hfit hA hH) fun e1 a1 w1 he => ?_
    obtain ⟨rfl, β', h1, h2, h3⟩ := he
    obtain ⟨hex, hres, hs⟩ := hfin
    obtain ⟨v, hv, hrv⟩ := results_run (P := P) hres h1 h2
    have hfresh : ∀ b, Live β' b → w.heap.size ≤ b := fun b hb => by
      rcases h3.live b hb with h | h
      · exact absurd h live_nil
      · exact h
    have hR := shutOk_rep (w0 := w) h2 hrv hfresh hs
    have hg : Grow [] [] w w1 := ⟨h3.os, h3.tape, h3.output, h3.size, fun k hk _ => h3.block k hk live_nil, h3.shape, fun b hb => .inl hb, Nat.le_refl _, fun id x hid => by simp at hid⟩
    rcases hex with rfl | rfl <;> exact ⟨h1.defers, v, hv, v, rfl, hg, hR⟩
def nrm : PV → PV
  | .lit (.slice none 0 0) => .ro 0 []
  | p => p
def nrmC (S : List PV → Prop × PV) : List PV → Prop × PV := fun args => S (args.map nrm)
def FinS (P : Program) (fn : Func) (r : PV) (L' : LH) (e : Exit) (env : Env) (L : LH) : Prop :=
  (e = .normal ∨ e = .ret) ∧ resAll P env L fn.results.toList ∧ resPV P fn env L = r ∧ closed r = true ∧ L.take L'.length = L' ∧ ∀ cs, LE.cells cs ∈ L' → closedL cs = true
theorem repH_take {L' : LH} (hH : RepH X β w L) (h : L.take L'.length = L') (hc : ∀ cs, LE.cells cs ∈ L' → closedL cs = true) (hlen : L'.length ≤ L.length) : RepH X (β.take L'.length) w L' := by
  have hget : ∀ i, i < L'.length → (β.take L'.length)[i]? = β[i]? := fun i hi => by rw [List.getElem?_take, if_pos hi]
  have hsub : ∀ b, Live (β.take L'.length) b → Live β b := by
    rintro b ⟨i, base, hi⟩
    have hlt : i < L'.length := by
      have := (List.getElem?_eq_some_iff.1 hi).1
      simp at this; omega
    exact ⟨i, base, by rw [← hget i hlt]; exact hi⟩
  refine ⟨by simp [hH.len]; omega, ?_, fun b hb => hH.lt b (hsub b hb), fun b hb => ⟨(hH.out b hb).1, fun h => (hH.out b hb).2 (hsub b h)⟩, ?_⟩
  · intro i j b x y hi hj
    have h1 : i < L'.length := by have := (List.getElem?_eq_some_iff.1 hi).1; simp at this; omega
    have h2 : j < L'.length := by have := (List.getElem?_eq_some_iff.1 hj).1; simp at this; omega
    rw [hget i h1] at hi
    rw [hget j h2] at hj
    exact hH.inj i j b x y hi hj
  · intro i cs hi
    have hlt := (List.getElem?_eq_some_iff.1 hi).1
    have hi' : L[i]? = some (.cells cs) := by rw [← hi]; conv => rhs; rw [← h]; 
                                              rw [List.getElem?_take, if_pos hlt]
    rcases hH.ent i cs hi' with ⟨e1, e2⟩ | ⟨b, base, c, el, e1, e2, e3, e4⟩
    · exact .inl ⟨by rw [hget i hlt]; exact e1, e2⟩
    · refine .inr ⟨b, base, c, el, by rw [hget i hlt]; exact e1, e2, e3, RepRow.anti (fun b hb => hb.imp id (hsub b)) b cs base (hc cs (List.mem_of_getElem? hi)) e4⟩
theorem stOk_of {tab : FuncId → Entry} (hΓ : ∀ f, EntryOk P f (tab f)) (hm : P.follows .mixedOrders = true) {f : FuncId} {fn : Func} {c : Code} {T : List PV → LH → OR} (hf : P.funcs[f]? = some fn) (hb : fn.body = some c) (hfit : fits fn.ntmps c = true)
    (hcall : ∀ (vs : Array Value) (w : World), (callFunc f vs).run P w = .ok (.enter f vs) w)
    (h : ∀ args L, (T args L).pre → args.length ≤ fn.ntmps ∧ (T args L).L.length = L.length ∧ Ex P ⟨tab, L.length⟩ c (entry 0 args) L (FinS P fn (T args L).val (T args L).L)) : StOk P f T where
  call := fun _ => hcall
  run := by
    intro args L hT X β w vs hr hH hG0
    obtain ⟨hlen, hLL, e, env', L', hrun, hfin⟩ := h args L hT
    have hvl := RepL.length hr
    refine calls_of_wp hf hb ?_
    have hsz : (vs.toArray ++ Array.replicate (fn.ntmps - vs.toArray.size) undef).size = fn.ntmps := by simp; omega
    have hA : RepA fn.ntmps X β w (entry 0 args) { tmps := vs.toArray ++ Array.replicate (fn.ntmps - vs.toArray.size) undef, defers := [] } := by
      refine ⟨hsz, rfl, fun t => ?_, hG0⟩
      have := entry_lookup hr (List.replicate (fn.ntmps - vs.length) undef) 0 t
      simp only [Nat.zero_le, if_true, Nat.sub_zero] at this
      have he : (vs.toArray ++ Array.replicate (fn.ntmps - vs.toArray.size) undef).getD t undef = (vs ++ List.replicate (fn.ntmps - vs.length) undef).getD t undef := by
        simp [List.getD, Array.getElem?_append, List.getElem?_append, Array.getElem?_replicate, List.getElem?_replicate]
      rw [he]; exact this
    have hG : GammaOk P ⟨tab, L.length⟩ := hΓ
    refine wp_mono ((Run.sound hG hm hrun).1 fn.ntmps X β w _ hfit hA hH) fun e1 a1 w1 he => ?_
    obtain ⟨rfl, β', h1, h2, h3⟩ := he
    obtain ⟨hex, hres, hrv, hcr, htk, hcl⟩ := hfin
    obtain ⟨v, hv, hrv'⟩ := results_run (P := P) hres h1 h2
    rw [hrv] at hrv'
    have hpin : L.length ≤ β.length := by rw [hH.len]; exact Nat.le_refl _
    have hlen' : L.length ≤ β'.length := h3.len hpin
    have hle : (T args L).L.length ≤ L'.length := by rw [hLL, ← h2.len]; exact hlen'
    have hH' := repH_take h2 htk hcl hle
    have hsub : ∀ b, Live (β'.take (T args L).L.length) b → Live β' b := by
      rintro b ⟨i, base, hi⟩
      rw [List.getElem?_take] at hi
      split at hi
      · exact ⟨i, base, hi⟩
      · cases hi
    have hR : RepV X (β'.take (T args L).L.length) w1 (T args L).val v := RepV.anti (fun b hb => hb.imp id (hsub b)) _ _ hcr hrv'
    have hg : Grow β (β'.take (T args L).L.length) w w1 := by
      refine ⟨h3.os, h3.tape, h3.output, h3.size, h3.block, h3.shape, fun b hb => h3.live b (hsub b hb), ?_, fun i x hi hx hd => ?_⟩
      · rw [List.length_take, hLL, hH.len]; omega
      · rw [List.getElem?_take] at hx
        split at hx
        · exact h3.keep hpin i x (by show i < L.length; rw [← hH.len]; exact hi) hx hd
        · cases hx
    rcases hex with rfl | rfl <;> exact ⟨h1.defers, v, hv, v, _, rfl, hR, hH', hg⟩
def tabOf : List (FuncId × Entry) → FuncId → Entry
  | [], _ => .none
  | (f, S) :: r, g => bif f == g then S else tabOf r g
def conOf (l : List (FuncId × Entry)) : Con := ⟨tabOf l, 0⟩
theorem tabOf_ok : ∀ {l : List (FuncId × Entry)}, (∀ x ∈ l, EntryOk P x.1 x.2) → ∀ f, EntryOk P f (tabOf l f)
  | [], _ => fun f => trivial
  | (f, S) :: r, h => fun g => by
    simp only [tabOf]
    cases hb : (f == g) with
    | true =>
      have := eq_of_beq hb
      subst this
      exact h (f, S) (by simp)
    | false => exact tabOf_ok (fun x hx => h x (by simp [hx])) g
theorem conOf_ok {l : List (FuncId × Entry)} (h : ∀ x ∈ l, EntryOk P x.1 x.2) : GammaOk P (conOf l) := tabOf_ok h
end Go.Ab
namespace Go.Ab
set_option linter.constructorNameAsVariable false
open Go Go.RowKit
set_option linter.unusedVariables false
set_option linter.unusedSimpArgs false
set_option linter.constructorNameAsVariable false
variable {P : Program} {Γ : Con} {L L' : LH} {env : Env} {draw : Mode} {all r : List Oper} {o : Oper} {k : Env → LH → Prop} {pre : Prop} {val : PV} {d : Nat}
@[reducible] def isPick : Op → Bool
  | .pick _ _ _ => true
  | _ => false
inductive Mode where
  | seq
  | draw
  | any
def dm : Mode → Op → Bool
  | .seq, _ => false
  | .draw, _ => true
  | .any, o => md o
def vOps (P : Program) (Γ : Con) (mode : Mode) (all ops : List Oper) (env : Env) (L : LH) (k : Env → LH → Prop) : Prop :=
  match mode with
  | .seq => lOps P Γ all ops env L k
  | .draw => dOps P Γ all ops env L k
  | .any => ∃ env' L', ARun P Γ all ops env L env' L' ∧ k env' L'
theorem vOps_nil (h : k env L) : vOps P Γ draw all [] env L k := by
  cases draw
  · exact ⟨env, L, .nil, h⟩
  · exact ⟨env, L, ⟨rfl, rfl⟩, h⟩
  · exact ⟨env, L, ⟨rfl, rfl⟩, h⟩
theorem vOps_step {v : PV} {L1 : LH} (hs : stepV P Γ (dm draw o.op) all o env L v L1) (h : vOps P Γ draw all r (putIn env o.dst v) L1 k) : vOps P Γ draw all (o :: r) env L k := by
  cases draw
  · obtain ⟨env', L', h1, h2⟩ := h
    exact ⟨env', L', .cons hs h1, h2⟩
  · obtain ⟨env', L', h1, h2⟩ := h
    exact ⟨env', L', ⟨v, L1, hs, h1⟩, h2⟩
  · obtain ⟨env', L', h1, h2⟩ := h
    exact ⟨env', L', ⟨v, L1, hs, h1⟩, h2⟩
theorem vOps_op (hg : o.guard = none) (hd : o.dst = some d) (_hnp : isPick o.op = false) (hop : opF P Γ (dm draw o.op) (evalIn env) L o.op = ⟨pre, val, L'⟩) (hp : pre) (h : vOps P Γ draw all r ((d, val) :: env) L' k) : vOps P Γ draw all (o :: r) env L k :=
  vOps_step (v := val) (L1 := L') (.inl ⟨.inl ⟨hg, rfl⟩, .inr ⟨by rw [hop]; exact hp, by rw [hop], by rw [hop]⟩⟩) (by rw [hd]; exact h)
theorem vOps_st (hg : o.guard = none) (hd : o.dst = none) (_hnp : isPick o.op = false) (hop : opF P Γ (dm draw o.op) (evalIn env) L o.op = ⟨pre, val, L'⟩) (hp : pre) (h : vOps P Γ draw all r env L' k) : vOps P Γ draw all (o :: r) env L k :=
  vOps_step (v := val) (L1 := L') (.inl ⟨.inl ⟨hg, rfl⟩, .inr ⟨by rw [hop]; exact hp, by rw [hop], by rw [hop]⟩⟩) (by rw [hd]; exact h)
theorem vOps_pick {t : Bool} {c x y : Operand} (hg : o.guard = none) (hd : o.dst = some d) (hop : o.op = .pick c x y) (hc : evalIn env c = .lit (.bool t)) (hv : evalIn env (bif t then x else y) = val) (h : vOps P Γ draw all r ((d, val) :: env) L k) : vOps P Γ draw all (o :: r) env L k :=
  vOps_step (v := val) (L1 := L) (.inl ⟨.inl ⟨hg, rfl⟩, .inl ⟨c, x, y, t, hop, hc, by rw [← hv]; cases t <;> rfl, rfl⟩⟩) (by rw [hd]; exact h)
theorem vOps_gpick {j g : Nat} {want t : Bool} {c x y : Operand} (hg : o.guard = some (j, want)) (hj : (all[j]?).bind (·.dst) = some g) (hl : lookup env g = .lit (.bool want)) (hd : o.dst = some d) (hop : o.op = .pick c x y) (hc : evalIn env c = .lit (.bool t)) (hv : evalIn env (bif t then x else y) = val) (h : vOps P Γ draw all r ((d, val) :: env) L k) : vOps P Γ draw all (o :: r) env L k :=
  vOps_step (v := val) (L1 := L) (.inl ⟨.inr ⟨j, want, g, hg, hj, .inl ⟨want, hl, by simp⟩⟩, .inl ⟨c, x, y, t, hop, hc, by rw [← hv]; cases t <;> rfl, rfl⟩⟩) (by rw [hd]; exact h)
theorem vOps_gskip {j g : Nat} {want b : Bool} (hg : o.guard = some (j, want)) (hj : (all[j]?).bind (·.dst) = some g) (hl : lookup env g = .lit (.bool b)) (hb : (b == want) = false) (h : vOps P Γ draw all r (putIn env o.dst (.lit undef)) L k) : vOps P Γ draw all (o :: r) env L k :=
  vOps_step (v := .lit undef) (L1 := L) (.inr ⟨.inr ⟨j, want, g, hg, hj, .inl ⟨b, hl, hb.symm⟩⟩, rfl, rfl⟩) h
theorem vOps_gundef {j g : Nat} {want : Bool} (hg : o.guard = some (j, want)) (hj : (all[j]?).bind (·.dst) = some g) (hl : lookup env g = .lit undef) (h : vOps P Γ draw all r (putIn env o.dst (.lit undef)) L k) : vOps P Γ draw all (o :: r) env L k :=
  vOps_step (v := .lit undef) (L1 := L) (.inr ⟨.inr ⟨j, want, g, hg, hj, .inr ⟨#[], hl, rfl⟩⟩, rfl, rfl⟩) h
theorem vOps_fork {j g : Nat} {want b : Bool} (hg : o.guard = some (j, want)) (hj : (all[j]?).bind (·.dst) = some g) (hl : lookup env g = .lit (.bool b))
    (ht : b = true → vOps P Γ draw all (o :: r) env L k) (hf : b = false → vOps P Γ draw all (o :: r) env L k) : vOps P Γ draw all (o :: r) env L k := by
  cases b
  · exact hf rfl
  · exact ht rfl
theorem vOps_forkp {b : Bool} {c x y : Operand} (hop : o.op = .pick c x y) (hc : evalIn env c = .lit (.bool b))
    (ht : b = true → vOps P Γ draw all (o :: r) env L k) (hf : b = false → vOps P Γ draw all (o :: r) env L k) : vOps P Γ draw all (o :: r) env L k := by
  cases b
  · exact hf rfl
  · exact ht rfl
theorem seqC_normal {y : Code} {k : Exit → Env → LH → Prop} (h : vC P Γ y env L k) : seqC P Γ y k .normal env L := h
theorem seqC_ret {y : Code} {k : Exit → Env → LH → Prop} (h : k .ret env L) : seqC P Γ y k .ret env L := h
theorem seqC_exit {y : Code} {id : Nat} {k : Exit → Env → LH → Prop} (h : k (.exit id) env L) : seqC P Γ y k (.exit id) env L := h
theorem blockC_normal {id : Nat} {k : Exit → Env → LH → Prop} (h : k .normal env L) : blockC id k .normal env L := h
theorem blockC_ret {id : Nat} {k : Exit → Env → LH → Prop} (h : k .ret env L) : blockC id k .ret env L := h
theorem blockC_hit {id : Nat} {k : Exit → Env → LH → Prop} (h : k .normal env L) : blockC id k (.exit id) env L := by simp [blockC]; exact h
theorem blockC_miss {id id' : Nat} {k : Exit → Env → LH → Prop} (hne : (id' == id) = false) (h : k (.exit id') env L) : blockC id k (.exit id') env L := by
  have : ¬ id' = id := by simpa using hne
  simp only [blockC, this, if_false]; exact h
theorem vC_region {id : Nat} {l : List Oper} {k : Exit → Env → LH → Prop} (h : vOps P Γ .seq l l env L (k .normal)) : vC P Γ (.region id l.toArray false) env L k := by
  apply vC_region0
  simpa [vOps] using h
theorem vC_any {id : Nat} {l : List Oper} {k : Exit → Env → LH → Prop} (hd : anyOk l = true) (h : vOps P Γ .any l l env L (fun env' L' => lsOk l env' = true ∧ k .normal env' L')) : vC P Γ (.region id l.toArray true) env L k := by
  apply vC_any0
  obtain ⟨env', L', h1, h2, h3⟩ := h
  exact ⟨env', L', by simpa using h1, by simpa using hd, by simpa using h2, h3⟩
theorem resOne_tmp {t : Nat} : resOne P env L (.tmp t) = (True, lookup env t) := rfl
theorem shut_bool {b : Bool} : shut L (.lit (.bool b)) = (True, .lit (.bool b)) := by simp [shut, borrowOk, borrow, closed]
theorem shut_string {s : ByteArray} : shut L (.lit (.string s)) = (True, .lit (.string s)) := by simp [shut, borrowOk, borrow, closed]
theorem scopeC_normal {k : Exit → Env → LH → Prop} (h : k .normal env L) : scopeC k .normal env L := h
theorem scopeC_ret {k : Exit → Env → LH → Prop} (h : k .ret env L) : scopeC k .ret env L := h
theorem scopeC_exit {id : Nat} {k : Exit → Env → LH → Prop} (h : k (.exit id) env L) : scopeC k (.exit id) env L := h
def unrC (P : Program) (Γ : Con) (c : Code) (k : Exit → Env → LH → Prop) : Exit → Env → LH → Prop := fun e env L => match e with
  | .normal => vC P Γ (.loop c) env L k
  | e => k e env L
theorem vC_unroll {c : Code} {k : Exit → Env → LH → Prop} (h : vC P Γ c env L (unrC P Γ c k)) : vC P Γ (.loop c) env L k := by
  show Ex P Γ (.loop c) env L k
  obtain ⟨e, env1, L1, h1, h2⟩ := vC_sound (c := c) h
  cases e with
  | normal =>
    obtain ⟨e, env2, L2, h3, h4⟩ := (show Ex P Γ (.loop c) env1 L1 k from h2)
    exact ⟨_, _, _, .loop h1 h3, h4⟩
  | exit id => exact ⟨_, _, _, .loopOut h1 (by simp), h2⟩
  | goto l => exact ⟨_, _, _, .loopOut h1 (by simp), h2⟩
  | ret => exact ⟨_, _, _, .loopOut h1 (by simp), h2⟩
  | panic ch => exact ⟨_, _, _, .loopOut h1 (by simp), h2⟩
  | outgrown => exact ⟨_, _, _, .loopOut h1 (by simp), h2⟩
def narrow (keep : List Nat) (env : Env) : Env := keep.map fun t => (t, lookup env t)
theorem lookup_narrow : ∀ (keep : List Nat) (env : Env) (t : Nat), lookup (narrow keep env) t = .any ∨ lookup (narrow keep env) t = lookup env t
  | [], env, t => .inl rfl
  | s :: keep, env, t => by
    simp only [narrow, List.map_cons, lookup]
    cases hb : (s == t) with
    | true =>
      have := eq_of_beq hb
      subst this
      exact .inr rfl
    | false => exact lookup_narrow keep env t
theorem vC_less {c : Code} {k : Exit → Env → LH → Prop} (keep : List Nat) (h : vC P Γ c (narrow keep env) L k) : vC P Γ c env L k := by
  obtain ⟨e, env', L', h1, h2⟩ := h
  exact ⟨e, env', L', .less (lookup_narrow keep env) h1, h2⟩
theorem lookup_cons (i t : Nat) (p : PV) (r : Env) : lookup ((i, p) :: r) t = bif i == t then p else lookup r t := rfl
theorem entry_nil (i : Nat) : entry i [] = [] := rfl
theorem entry_cons (i : Nat) (p : PV) (r : List PV) : entry i (p :: r) = (i, p) :: entry (i + 1) r := rfl
theorem evalIn_tmp (env : Env) (t : Nat) : evalIn env (.tmp t) = lookup env t := rfl
theorem evalIn_const (env : Env) (v : Value) : evalIn env (.const v) = .lit v := rfl
theorem evalIn_func (env : Env) (f : Nat) : evalIn env (.func f) = .fn (.func f) [] [] := rfl
section ints
variable {t : TypeId} {k : IntKind} {a b : Int}
theorem binF_add : binF P .add t (.lit (.int k a)) (.lit (.int k b)) L = ⟨True, .lit (.int k (k.wrap (a + b))), L⟩ := by simp [binF, binInt]
theorem binF_sub : binF P .sub t (.lit (.int k a)) (.lit (.int k b)) L = ⟨True, .lit (.int k (k.wrap (a - b))), L⟩ := by simp [binF, binInt]
theorem binF_mul : binF P .mul t (.lit (.int k a)) (.lit (.int k b)) L = ⟨True, .lit (.int k (k.wrap (a * b))), L⟩ := by simp [binF, binInt]
theorem binF_quo : binF P .quo t (.lit (.int k a)) (.lit (.int k b)) L = ⟨b ≠ 0, .lit (.int k (k.wrap (a.tdiv b))), L⟩ := by simp [binF, binInt]
theorem binF_rem : binF P .rem t (.lit (.int k a)) (.lit (.int k b)) L = ⟨b ≠ 0, .lit (.int k (a.tmod b)), L⟩ := by simp [binF, binInt]
theorem binF_lss : binF P .lss t (.lit (.int k a)) (.lit (.int k b)) L = ⟨True, .lit (.bool (decide (a < b))), L⟩ := by simp [binF, binInt]
theorem binF_leq : binF P .leq t (.lit (.int k a)) (.lit (.int k b)) L = ⟨True, .lit (.bool (decide (a ≤ b))), L⟩ := by simp [binF, binInt]
theorem binF_gtr : binF P .gtr t (.lit (.int k a)) (.lit (.int k b)) L = ⟨True, .lit (.bool (decide (b < a))), L⟩ := by simp [binF, binInt]
theorem binF_geq : binF P .geq t (.lit (.int k a)) (.lit (.int k b)) L = ⟨True, .lit (.bool (decide (b ≤ a))), L⟩ := by simp [binF, binInt]
theorem binF_eql : binF P .eql t (.lit (.int k a)) (.lit (.int k b)) L = ⟨True, .lit (.bool (decide (a = b))), L⟩ := by simp [binF, binInt]; rfl
theorem binF_neq : binF P .neq t (.lit (.int k a)) (.lit (.int k b)) L = ⟨True, .lit (.bool (decide (a ≠ b))), L⟩ := by simp [binF, binInt, bne]; rfl
theorem binF_and : binF P .and t (.lit (.int k a)) (.lit (.int k b)) L = ⟨True, .lit (.int k (k.wrap (BitVec.ofInt k.bits a &&& BitVec.ofInt k.bits b).toNat)), L⟩ := by simp [binF, binInt]
theorem binF_or : binF P .or t (.lit (.int k a)) (.lit (.int k b)) L = ⟨True, .lit (.int k (k.wrap (BitVec.ofInt k.bits a ||| BitVec.ofInt k.bits b).toNat)), L⟩ := by simp [binF, binInt]
theorem binF_xor : binF P .xor t (.lit (.int k a)) (.lit (.int k b)) L = ⟨True, .lit (.int k (k.wrap (BitVec.ofInt k.bits a ^^^ BitVec.ofInt k.bits b).toNat)), L⟩ := by simp [binF, binInt]
theorem binF_shl {k' : IntKind} : binF P .shl t (.lit (.int k a)) (.lit (.int k' b)) L = ⟨0 ≤ b, .lit (.int k (k.wrap (a * 2 ^ (min b.toNat k.bits)))), L⟩ := by simp [binF]
theorem binF_shr {k' : IntKind} : binF P .shr t (.lit (.int k a)) (.lit (.int k' b)) L = ⟨0 ≤ b, .lit (.int k (a.fdiv (2 ^ (min b.toNat k.bits)))), L⟩ := by simp [binF]
end ints
theorem binF_seql {t : TypeId} {a b : ByteArray} : binF P .eql t (.lit (.string a)) (.lit (.string b)) L = ⟨True, .lit (.bool (a.toList == b.toList)), L⟩ := by simp [binF, binStr]
theorem binF_sneq {t : TypeId} {a b : ByteArray} : binF P .neq t (.lit (.string a)) (.lit (.string b)) L = ⟨True, .lit (.bool (!(a.toList == b.toList))), L⟩ := by simp [binF, binStr]
theorem wrap_i64 {n : Int} (h1 : -9223372036854775808 ≤ n) (h2 : n ≤ 9223372036854775807) : IntKind.i64.wrap n = n := by rw [IntKind.wrap_i64]; omega
theorem wrap_u8 {n : Int} (h1 : 0 ≤ n) (h2 : n < 256) : IntKind.u8.wrap n = n := by simp [IntKind.wrap, IntKind.bits, IntKind.signed]; omega
theorem wrap_u16 {n : Int} (h1 : 0 ≤ n) (h2 : n < 65536) : IntKind.u16.wrap n = n := by simp [IntKind.wrap, IntKind.bits, IntKind.signed]; omega
theorem wrap_u32 {n : Int} (h1 : 0 ≤ n) (h2 : n < 4294967296) : IntKind.u32.wrap n = n := by simp [IntKind.wrap, IntKind.bits, IntKind.signed]; omega
theorem map_byteOf_bv (bs : List UInt8) : (bs.map bv).map byteOf = bs := by
  rw [List.map_map]
  conv => rhs; rw [← List.map_id bs]
  apply List.map_congr_left
  intro b _
  simp [bv, byteOf]
theorem closedL_bv (bs : List UInt8) : closedL (bs.map bv) = true := by
  rw [closedL_iff]; intro p hp; rw [List.mem_map] at hp; obtain ⟨b, _, rfl⟩ := hp; rfl
theorem flatL_bv (bs : List UInt8) : flatL (bs.map bv) = true := by
  rw [flatL_iff]; intro p hp; rw [List.mem_map] at hp; obtain ⟨b, _, rfl⟩ := hp; rfl
theorem one_bv (bs : List UInt8) : (bs.map bv).all PV.one = true := by
  rw [List.all_eq_true]; intro p hp; rw [List.mem_map] at hp; obtain ⟨b, _, rfl⟩ := hp; rfl
theorem isByte_bv (bs : List UInt8) : (∀ p ∈ bs.map bv, isByte p) ↔ True := by
  simp only [iff_true]; intro p hp; rw [List.mem_map] at hp; obtain ⟨b, _, rfl⟩ := hp; trivial
theorem getD_bv (bs : List UInt8) (i : Nat) : (bs.map bv).getD i (.lit (.int .u8 0)) = bv (bs.getD i 0) := by
  simp only [List.getD_eq_getElem?_getD, List.getElem?_map]
  cases bs[i]? <;> rfl
def isB (n : Nat) (cs : List PV) : Prop := n = cs.length ∧ ∃ bs : List UInt8, cs = bs.map bv
theorem isB_bv (bs : List UInt8) : isB bs.length (bs.map bv) ↔ True := by simp only [iff_true]; exact ⟨by simp, bs, rfl⟩
end Go.Ab
namespace Go.Ab
open Go Go.RowKit
set_option linter.unusedVariables false
set_option linter.unusedSimpArgs false
set_option linter.constructorNameAsVariable false
variable {P : Program} {Γ : Con} {L L' : LH} {env : Env} {draw : Mode} {all r : List Oper} {o : Oper} {k : Env → LH → Prop} {pre : Prop} {val : PV} {d : Nat}
theorem slc_ro {n : Nat} {cs : List PV} : slc L (.ro n cs) = (True, n, cs) := rfl
theorem rep_zero (z : Value) : rep 0 z = [] := rfl
theorem rep_u8 (n : Nat) : rep n (.int .u8 0) = (List.replicate n (0 : UInt8)).map bv := by
  induction n with
  | zero => rfl
  | succ n ih => simp only [rep, List.replicate_succ, List.flatten_cons, List.map_cons] at ih ⊢; rw [ih]; rfl
theorem fresh_own {n sz : Nat} {cs : List PV} : fresh false n sz cs L = (.own L.length 0 n sz, L ++ [.cells cs]) := rfl
theorem fresh_ro {n sz : Nat} {cs : List PV} : fresh true n sz cs L = (.ro n cs, L) := rfl
def RenEnv (m : List Nat) (env : Env) : Env → Prop
  | [] => True
  | (t, q) :: r => RenOk m (lookup env t) q ∧ RenEnv m env r
def RenRows (L : LH) : List Nat → LH → Prop
  | [], [] => True
  | i :: m, .dead :: L2 => RenRows L m L2
  | i :: m, .cells cs :: L2 => (L[i]? = some (.cells cs) ∧ closedL cs = true) ∧ RenRows L m L2
  | _, _ => False
theorem weak_mk {n : Nat} {m : List Nat} {env2 : Env} {L2 : LH} (hp : ∀ i, i < n → m[i]? = some i) (h1 : m.Nodup) (h2 : ∀ i ∈ m, i < L.length) (h3 : RenRows L m L2) (h4 : RenEnv m env env2) : Weak n m env L env2 L2 := by
  have hr : ∀ (m : List Nat) (L2 : LH), RenRows L m L2 → L2.length = m.length ∧ ∀ (k i : Nat) cs, m[k]? = some i → L2[k]? = some (.cells cs) → L[i]? = some (.cells cs) ∧ closedL cs = true := by
    intro m
    induction m with
    | nil => intro L2 h; cases L2 with
      | nil => exact ⟨rfl, fun k i cs h => by simp at h⟩
      | cons _ _ => exact h.elim
    | cons i m ih =>
      intro L2 h
      cases L2 with
      | nil => exact h.elim
      | cons x L2 =>
        cases x with
        | dead =>
          obtain ⟨e1, e2⟩ := ih L2 h
          refine ⟨by simp [e1], fun k j cs hk hL => ?_⟩
          cases k with
          | zero => simp at hL
          | succ k => exact e2 k j cs (by simpa using hk) (by simpa using hL)
        | cells cs0 =>
          obtain ⟨h5, h6⟩ := h
          obtain ⟨e1, e2⟩ := ih L2 h6
          refine ⟨by simp [e1], fun k j cs hk hL => ?_⟩
          cases k with
          | zero => simp at hk hL; subst hk hL; exact h5
          | succ k => exact e2 k j cs (by simpa using hk) (by simpa using hL)
  have he : ∀ env2, RenEnv m env env2 → ∀ x ∈ env2, RenOk m (lookup env x.1) x.2 := by
    intro env2
    induction env2 with
    | nil => intro _ x hx; simp at hx
    | cons y env2 ih =>
      intro h x hx
      obtain ⟨t, q⟩ := y
      rcases List.mem_cons.1 hx with rfl | hx
      · exact h.1
      · exact ih h.2 x hx
  exact ⟨hp, h1, h2, (hr m L2 h3).1, (hr m L2 h3).2, fun x hx _ => he env2 h4 x hx⟩
def has : List Nat → Nat → Bool
  | [], _ => false
  | a :: l, t => bif a == t then true else has l t
theorem ren_keep {m : List Nat} {p : PV} (h : closed p = true) : RenOk m p p := .inr (.inl ⟨h, rfl⟩)
theorem ren_eq {m : List Nat} {p q : PV} (h : closed p = true) (e : p = q) : RenOk m p q := e ▸ ren_keep h
theorem ren_int {m : List Nat} {k : IntKind} {a b : Int} (e : a = b) : RenOk m (.lit (.int k a)) (.lit (.int k b)) := ren_eq rfl (by rw [e])
theorem ren_own {m : List Nat} {id k off n n' sz : Nat} (hk : m[k]? = some id) (hn : n = n') : RenOk m (.own id off n sz) (.own k off n' sz) := .inr (.inr (.inl ⟨id, k, off, n, sz, rfl, hk, by rw [hn]⟩))
theorem ren_ptr {m : List Nat} {id k off : Nat} (hk : m[k]? = some id) : RenOk m (.ptr id off) (.ptr k off) := .inr (.inr (.inr ⟨id, k, off, rfl, hk, rfl⟩))
def loopC {ι : Type} (n : Nat) (I : ι → Env × LH) (μ : ι → Nat) (x : ι) (k : Exit → Env → LH → Prop) : Exit → Env → LH → Prop := fun e env' L' => match e with
  | .normal => ∃ y m, μ y < μ x ∧ Weak n m env' L' (I y).1 (I y).2
  | e => k e env' L'
theorem loopC_normal {n : Nat} {ι : Type} {I : ι → Env × LH} {μ : ι → Nat} {x : ι} {k : Exit → Env → LH → Prop} (y : ι) (m : List Nat) (h1 : μ y < μ x) (h2 : Weak n m env L (I y).1 (I y).2) : loopC n I μ x k .normal env L := ⟨y, m, h1, h2⟩
theorem loopC_ret {n : Nat} {ι : Type} {I : ι → Env × LH} {μ : ι → Nat} {x : ι} {k : Exit → Env → LH → Prop} (h : k .ret env L) : loopC n I μ x k .ret env L := h
theorem loopC_exit {n : Nat} {ι : Type} {I : ι → Env × LH} {μ : ι → Nat} {x : ι} {id : Nat} {k : Exit → Env → LH → Prop} (h : k (.exit id) env L) : loopC n I μ x k (.exit id) env L := h
theorem vC_loopI {c : Code} {ι : Type} {k : Exit → Env → LH → Prop} (I : ι → Env × LH) (μ : ι → Nat) (x : ι) (m : List Nat) (hw : Weak Γ.pin m env L (I x).1 (I x).2)
    (step : ∀ x, vC P Γ c (I x).1 (I x).2 (loopC Γ.pin I μ x k)) : vC P Γ (.loop c) env L k :=
  vC_loop (Ex.weak m hw (Ex.loop I μ (fun x => vC_sound (step x)) x))
end Go.Ab
namespace Go.Ab
theorem take_bytes (bs : List UInt8) : (bs.map bv).take bs.length = bs.map bv := List.take_of_length_le (by simp)
end Go.Ab
namespace Go.Ab
open Go Go.RowKit
set_option linter.unusedVariables false
set_option linter.unusedSimpArgs false
set_option linter.constructorNameAsVariable false
variable {P : Program} {L : LH} {env : Env} {pre : Prop}
def newB (bs : List UInt8) : PV := .new bs.length 1 (bs.map bv)
def rowB (bs : List UInt8) : PV := .ro bs.length (bs.map bv)
def bytesOf (cs : List PV) : List UInt8 := cs.map byteOf
theorem bytesOf_bv (bs : List UInt8) : bytesOf (bs.map bv) = bs := map_byteOf_bv bs
def isRows : List PV → Prop
  | [] => True
  | .ro n cs :: r => isB n cs ∧ isRows r
  | _ => False
def rowsOf : List PV → List (List UInt8)
  | [] => []
  | .ro _ cs :: r => bytesOf cs :: rowsOf r
  | _ :: r => [] :: rowsOf r
theorem closedL_rows (bss : List (List UInt8)) : closedL (bss.map rowB) = true := by
  rw [closedL_iff]; intro p hp; rw [List.mem_map] at hp; obtain ⟨b, _, rfl⟩ := hp; simp [rowB, closed, closedL_bv]
end Go.Ab
namespace Go.Ab
theorem tabOf_cons (f g : Nat) (S : Entry) (r : List (FuncId × Entry)) : tabOf ((f, S) :: r) g = bif f == g then S else tabOf r g := rfl
theorem conOf_one {f : FuncId} {S : Entry} {P : Program} {r : List (FuncId × Entry)} (h : EntryOk P f S) (hr : ∀ x ∈ r, EntryOk P x.1 x.2) : ∀ x ∈ (f, S) :: r, EntryOk P x.1 x.2 := by
  intro x hx
  rcases List.mem_cons.1 hx with rfl | hx
  · exact h
  · exact hr x hx
theorem conOf_end {P : Program} : ∀ x ∈ ([] : List (FuncId × Entry)), EntryOk P x.1 x.2 := by simp
end Go.Ab
namespace Go.Ab
open Go Go.RowKit
set_option linter.unusedVariables false
set_option linter.unusedSimpArgs false
set_option linter.constructorNameAsVariable false
variable {P : Program} {L : LH} {env : Env} {pre : Prop}
end Go.Ab
namespace Go.Ab
theorem rep_cell (n : Nat) (z : Value) (h : z.cells = #[z]) : rep n z = List.replicate n (.lit z) := by
  induction n with
  | zero => rfl
  | succ n ih => simp only [rep, List.replicate_succ, List.flatten_cons, h] at ih ⊢; rw [ih]; rfl
theorem rep_slice (n : Nat) : rep n (.slice none 0 0) = List.replicate n (.lit (.slice none 0 0)) := rep_cell n _ rfl
end Go.Ab
namespace Go.Ab
set_option linter.constructorNameAsVariable false
open Go Go.RowKit
set_option linter.unusedVariables false
set_option linter.unusedSimpArgs false
variable {P : Program} {Γ : Con} {L L' : LH} {env : Env} {pre : Prop}
theorem shut_closed {p : PV} (h : closed p = true) : (shut L p).1 ∧ (shut L p).2 = p := by
  unfold shut
  split
  · simp [closed] at h
  · simp [closed, closedL] at h
  · rename_i rs _
    simp only [closed] at h
    exact ⟨.inl h, by simp only [clr, h, cond_true]⟩
  · exact ⟨.inl h, by simp only [borrow, h, cond_true]⟩
def resPVl (P : Program) (env : Env) (L : LH) : List ResultVar → PV
  | [r] => (resOne P env L r).2
  | rs => .tup (rs.map fun r => (resOne P env L r).2)
theorem resPV_l {fn : Func} : resPV P fn env L = resPVl P env L fn.results.toList := by
  unfold resPV resPVl
  generalize fn.results.toList = l
  rcases l with _ | ⟨r, _ | ⟨s, rs⟩⟩ <;> rfl
theorem fin_c {fn : Func} {rr p : PV} {xs : List ResultVar} {e : Exit} (he : e = .normal ∨ e = .ret) (hr : fn.results.toList = xs) (h0 : resAll P env L xs) (h1 : resPVl P env L xs = p) (hc : closed p = true) (h2 : p = rr) : Fin P fn rr e env L := by
  refine ⟨he, by rw [hr]; exact h0, ?_⟩
  rw [resPV_l, hr, h1, ← h2]
  exact .inl (shut_closed hc)
theorem fin_s {fn : Func} {rr p : PV} {L2 : LH} {xs : List ResultVar} {e : Exit} (he : e = .normal ∨ e = .ret) (hr : fn.results.toList = xs) (h0 : resAll P env L xs) (h1 : resPVl P env L xs = p) (hc : closed p = true) (h2 : p = rr) (h3 : L.take L2.length = L2) (h4 : ∀ cs, LE.cells cs ∈ L2 → closedL cs = true) : FinS P fn rr L2 e env L :=
  ⟨he, by rw [hr]; exact h0, by rw [resPV_l, hr, h1, h2], by rw [← h2]; exact hc, h3, h4⟩
theorem resOne_cell {a t : Nat} : resOne P env L (.cell a t) = ((loadF P t (lookup env a) L).pre, (loadF P t (lookup env a) L).val) := rfl
theorem resAll_nil : resAll P env L [] = True := rfl
theorem resAll_cons {r : ResultVar} {rs : List ResultVar} : resAll P env L (r :: rs) = ((resOne P env L r).1 ∧ resAll P env L rs) := rfl
theorem resPVl_1 {r : ResultVar} : resPVl P env L [r] = (resOne P env L r).2 := rfl
theorem resPVl_0 : resPVl P env L [] = .tup [] := rfl
theorem resPVl_2 {r s : ResultVar} {rs : List ResultVar} : resPVl P env L (r :: s :: rs) = .tup ((resOne P env L r).2 :: (resOne P env L s).2 :: rs.map fun r => (resOne P env L r).2) := rfl
theorem cells_agg {cs : List PV} : (PV.agg cs).cells = cs := rfl
theorem cells_int {k : IntKind} {n : Int} : (PV.lit (.int k n)).cells = [.lit (.int k n)] := rfl
theorem cells_bool {b : Bool} : (PV.lit (.bool b)).cells = [.lit (.bool b)] := rfl
theorem cells_string {b : ByteArray} : (PV.lit (.string b)).cells = [.lit (.string b)] := rfl
theorem cells_slice {a : Option Addr} {n c : Nat} : (PV.lit (.slice a n c)).cells = [.lit (.slice a n c)] := rfl
theorem cells_ro {n : Nat} {cs : List PV} : (PV.ro n cs).cells = [.ro n cs] := rfl
theorem cells_rptr {cs : List PV} : (PV.rptr cs).cells = [.rptr cs] := rfl
theorem nrm_nil : nrm (.lit (.slice none 0 0)) = .ro 0 [] := rfl
theorem nrm_int {k : IntKind} {n : Int} : nrm (.lit (.int k n)) = .lit (.int k n) := rfl
theorem nrm_bool {b : Bool} : nrm (.lit (.bool b)) = .lit (.bool b) := rfl
theorem nrm_string {b : ByteArray} : nrm (.lit (.string b)) = .lit (.string b) := rfl
theorem nrm_ro {n : Nat} {cs : List PV} : nrm (.ro n cs) = .ro n cs := rfl
theorem nrm_agg {cs : List PV} : nrm (.agg cs) = .agg cs := rfl
theorem nrm_rptr {cs : List PV} : nrm (.rptr cs) = .rptr cs := rfl
theorem slc_nil' : slc L (.lit (.slice none 0 0)) = (True, 0, []) := rfl
theorem slc_own' {id off n sz : Nat} : slc L (.own id off n sz) = (match L[id]? with | some (.cells cs) => (off + n * sz ≤ cs.length, n, (cs.drop off).take (n * sz)) | _ => (False, 0, [])) := rfl
theorem conv_int {s d : Nat} {k k' : IntKind} {S : TI} {s2 b2 : Nat} {z2 : Value} {n : Int} (h1 : tyOf P s = some S) (h2 : tyOf P d = some ⟨.int k, s2, b2, z2⟩) :
    convF P s d (.lit (.int k' n)) L = ⟨True, .lit (.int k (k.wrap n)), L⟩ := by
  simp only [convF, h1, h2]
theorem tf_ne : (true == false) = false := rfl
theorem ft_ne : (false == true) = false := rfl
theorem bytesOf_u8 (k : Int) (l : List UInt8) : bytesOf (.lit (.int .u8 k) :: l.map bv) = UInt8.ofNat k.toNat :: l := by
  rw [show bytesOf (.lit (.int .u8 k) :: l.map bv) = UInt8.ofNat k.toNat :: bytesOf (l.map bv) from rfl, bytesOf_bv]
theorem dro_bv (L : List LE) (n : Nat) (bs : List UInt8) : (bs.map bv).map (dro L n) = bs.map bv := by
  rw [List.map_map]; apply List.map_congr_left; intro b _; cases n <;> simp [bv, dro]
theorem droOk_bv (L : List LE) (n : Nat) (bs : List UInt8) : (∀ q ∈ bs.map bv, droOk L n q) ↔ True := by
  simp only [iff_true, List.mem_map, forall_exists_index, and_imp]
  rintro q b _ rfl
  cases n <;> simp [bv, droOk]
theorem isB_one (k : Int) (h : 0 ≤ k ∧ k < 256) : isB 1 [.lit (.int .u8 k)] ↔ True := by
  simp only [iff_true]
  refine ⟨rfl, [UInt8.ofNat k.toNat], ?_⟩
  simp only [List.map_cons, List.map_nil, bv, List.cons.injEq, and_true, PV.lit.injEq, Value.int.injEq, true_and]
  simp
  omega
theorem bytesOf_one (k : Int) : bytesOf [.lit (.int .u8 k)] = [UInt8.ofNat k.toNat] := rfl
theorem tup2 {a a' b b' : PV} (h1 : a = a') (h2 : b = b') : PV.tup [a, b] = PV.tup [a', b'] := by rw [h1, h2]
theorem bool_eq {p q : Prop} [Decidable p] [Decidable q] (h : p ↔ q) : PV.lit (.bool (decide p)) = PV.lit (.bool (decide q)) := by simp only [decide_eq_decide.2 h]
theorem bool_tt {p : Prop} [Decidable p] (h : p) : PV.lit (.bool true) = PV.lit (.bool (decide p)) := by simp only [decide_eq_true h]
theorem bool_ff {p : Prop} [Decidable p] (h : ¬ p) : PV.lit (.bool false) = PV.lit (.bool (decide p)) := by simp only [decide_eq_false h]
theorem int_eq {k : IntKind} {a b : Int} (h : a = b) : PV.lit (.int k a) = PV.lit (.int k b) := by rw [h]
theorem unF_not {b : Bool} : unF .not (.lit (.bool b)) L = ⟨True, .lit (.bool !b), L⟩ := rfl
theorem unF_neg {k : IntKind} {n : Int} : unF .neg (.lit (.int k n)) L = ⟨True, .lit (.int k (k.wrap (0 - n))), L⟩ := rfl
section kinds
variable {draw : Mode} {all r : List Oper} {o : Oper} {k : Env → LH → Prop} {val : PV} {d : Nat}
theorem vOps_mv {x : Operand} (hk : o.op = .move x) (hg : o.guard = none) (hd : o.dst = some d) (hv : evalIn env x = val) (h : vOps P Γ draw all r ((d, val) :: env) L k) : vOps P Γ draw all (o :: r) env L k :=
  vOps_op (pre := True) (val := val) (L' := L) hg hd (by rw [hk]) (by rw [hk]; simp only [opF, hv]) trivial h
theorem vOps_as {x : Operand} (hk : o.op = .assign x) (hg : o.guard = none) (hd : o.dst = some d) (hv : evalIn env x = val) (h : vOps P Γ draw all r ((d, val) :: env) L k) : vOps P Γ draw all (o :: r) env L k :=
  vOps_op (pre := True) (val := val) (L' := L) hg hd (by rw [hk]) (by rw [hk]; simp only [opF, hv]) trivial h
theorem vOps_load {t : TypeId} {x : Operand} (hk : o.op = .load t x) (hg : o.guard = none) (hd : o.dst = some d) (hv : loadF P t (evalIn env x) L = ⟨pre, val, L'⟩) (hp : pre) (h : vOps P Γ draw all r ((d, val) :: env) L' k) : vOps P Γ draw all (o :: r) env L k :=
  vOps_op (pre := pre) (val := val) (L' := L') hg hd (by rw [hk]) (by rw [hk]; exact hv) hp h
theorem vOps_ixa {t : TypeId} {x i : Operand} (hk : o.op = .indexAddr t x i) (hg : o.guard = none) (hd : o.dst = some d) (hv : indexAddrF P t (evalIn env x) (evalIn env i) L = ⟨pre, val, L'⟩) (hp : pre) (h : vOps P Γ draw all r ((d, val) :: env) L' k) : vOps P Γ draw all (o :: r) env L k :=
  vOps_op (pre := pre) (val := val) (L' := L') hg hd (by rw [hk]) (by rw [hk]; exact hv) hp h
theorem vOps_ix {t : TypeId} {x i : Operand} (hk : o.op = .index t x i) (hg : o.guard = none) (hd : o.dst = some d) (hv : indexF P t (evalIn env x) (evalIn env i) L = ⟨pre, val, L'⟩) (hp : pre) (h : vOps P Γ draw all r ((d, val) :: env) L' k) : vOps P Γ draw all (o :: r) env L k :=
  vOps_op (pre := pre) (val := val) (L' := L') hg hd (by rw [hk]) (by rw [hk]; exact hv) hp h
theorem vOps_bin {b : BinOp} {t t2 : TypeId} {x y : Operand} (hk : o.op = .binOp b t x y t2) (hg : o.guard = none) (hd : o.dst = some d) (hv : binF P b t (evalIn env x) (evalIn env y) L = ⟨pre, val, L'⟩) (hp : pre) (h : vOps P Γ draw all r ((d, val) :: env) L' k) : vOps P Γ draw all (o :: r) env L k :=
  vOps_op (pre := pre) (val := val) (L' := L') hg hd (by rw [hk]) (by rw [hk]; exact hv) hp h
theorem vOps_un {b : UnOp} {t : TypeId} {x : Operand} (hk : o.op = .unOp b t x) (hg : o.guard = none) (hd : o.dst = some d) (hv : unF b (evalIn env x) L = ⟨pre, val, L'⟩) (hp : pre) (h : vOps P Γ draw all r ((d, val) :: env) L' k) : vOps P Γ draw all (o :: r) env L k :=
  vOps_op (pre := pre) (val := val) (L' := L') hg hd (by rw [hk]) (by rw [hk]; exact hv) hp h
theorem vOps_ext {i : Nat} {x : Operand} (hk : o.op = .extract x i) (hg : o.guard = none) (hd : o.dst = some d) (hv : extractF (evalIn env x) i L = ⟨pre, val, L'⟩) (hp : pre) (h : vOps P Γ draw all r ((d, val) :: env) L' k) : vOps P Γ draw all (o :: r) env L k :=
  vOps_op (pre := pre) (val := val) (L' := L') hg hd (by rw [hk]) (by rw [hk]; exact hv) hp h
theorem vOps_conv {s2 t : TypeId} {x : Operand} (hk : o.op = .convert s2 t x) (hg : o.guard = none) (hd : o.dst = some d) (hv : convF P s2 t (evalIn env x) L = ⟨pre, val, L'⟩) (hp : pre) (h : vOps P Γ draw all r ((d, val) :: env) L' k) : vOps P Γ draw all (o :: r) env L k :=
  vOps_op (pre := pre) (val := val) (L' := L') hg hd (by rw [hk]) (by rw [hk]; exact (convG_eq (by rw [hv]; exact hp)).trans hv) hp h
theorem vOps_slice {t : TypeId} {x : Operand} {lo hi mx : Option Operand} (hk : o.op = .slice t x lo hi mx) (hg : o.guard = none) (hd : o.dst = some d) (hv : sliceF P t (evalIn env x) (lo.map (evalIn env)) (hi.map (evalIn env)) (mx.map (evalIn env)) L = ⟨pre, val, L'⟩) (hp : pre) (h : vOps P Γ draw all r ((d, val) :: env) L' k) : vOps P Γ draw all (o :: r) env L k :=
  vOps_op (pre := pre) (val := val) (L' := L') hg hd (by rw [hk]) (by rw [hk]; exact hv) hp h
theorem vOps_build {t : TypeId} {ps : Array (Nat × Operand)} (hk : o.op = .build t ps) (hg : o.guard = none) (hd : o.dst = some d) (hv : buildF P t (ps.toList.map fun x => (x.1, evalIn env x.2)) L = ⟨pre, val, L'⟩) (hp : pre) (h : vOps P Γ draw all r ((d, val) :: env) L' k) : vOps P Γ draw all (o :: r) env L k :=
  vOps_op (pre := pre) (val := val) (L' := L') hg hd (by rw [hk]) (by rw [hk]; exact hv) hp h
theorem vOps_store {t : TypeId} {a x : Operand} (hk : o.op = .store t a x) (hg : o.guard = none) (hd : o.dst = none) (hm : dm draw o.op = false) (hv : storeF P false t (evalIn env a) (evalIn env x) L = ⟨pre, val, L'⟩) (hp : pre) (h : vOps P Γ draw all r env L' k) : vOps P Γ draw all (o :: r) env L k :=
  vOps_st (pre := pre) (val := val) (L' := L') hg hd (by rw [hk]) (by rw [hm, hk]; exact hv) hp h
theorem vOps_alloc {t : TypeId} (hk : o.op = .alloc t) (hg : o.guard = none) (hd : o.dst = some d) (hm : dm draw o.op = false) (hv : allocF P false t L = ⟨pre, val, L'⟩) (hp : pre) (h : vOps P Γ draw all r ((d, val) :: env) L' k) : vOps P Γ draw all (o :: r) env L k :=
  vOps_op (pre := pre) (val := val) (L' := L') hg hd (by rw [hk]) (by rw [hm, hk]; exact hv) hp h
theorem vOps_box {t : TypeId} {x : Operand} (hk : o.op = .box t x) (hg : o.guard = none) (hd : o.dst = some d) (hm : dm draw o.op = false) (hv : boxF false (evalIn env x) L = ⟨pre, val, L'⟩) (hp : pre) (h : vOps P Γ draw all r ((d, val) :: env) L' k) : vOps P Γ draw all (o :: r) env L k :=
  vOps_op (pre := pre) (val := val) (L' := L') hg hd (by rw [hk]) (by rw [hm, hk]; exact hv) hp h
theorem vOps_call {g : FuncId} {args : Array Operand} {tys : Array TypeId} {b : Bool} (hk : o.op = .call ⟨.value (.func g), args, tys⟩) (hg : o.guard = none) (hd : o.dst = some d) (hm : dm draw o.op = b) (hv : callF Γ b g (args.toList.map (evalIn env)) L = ⟨pre, val, L'⟩) (hp : pre) (h : vOps P Γ draw all r ((d, val) :: env) L' k) : vOps P Γ draw all (o :: r) env L k :=
  vOps_op (pre := pre) (val := val) (L' := L') hg hd (by rw [hk]) (by rw [hm, hk]; exact hv) hp h
end kinds
theorem adopt_closed {b : Bool} {p : PV} (h : closed p = true) : adopt b p L = (p, L) := by
  unfold adopt
  split
  · simp [closed] at h
  · simp [closed, closedL] at h
  · rfl
theorem adopt_new {b : Bool} {n sz : Nat} {cs : List PV} : adopt b (.new n sz cs) L = fresh b n sz cs L := rfl
theorem adopt_tnew {b : Bool} {n sz : Nat} {cs rs : List PV} : adopt b (.tup (.new n sz cs :: rs)) L = (.tup ((fresh b n sz cs L).1 :: rs), (fresh b n sz cs L).2) := rfl
end Go.Ab
namespace Go.Ab
open Go Go.RowKit
set_option linter.unusedVariables false
set_option linter.unusedSimpArgs false
set_option linter.constructorNameAsVariable false
variable {P : Program} {Γ : Con} {L L' : LH} {env : Env} {k : Exit → Env → LH → Prop} {c d x y : Code}
def codeAt : Code → List Nat → Code
  | c, [] => c
  | .seq a _, 0 :: p => codeAt a p
  | .seq _ b, _ :: p => codeAt b p
  | .cond _ a _, 0 :: p => codeAt a p
  | .cond _ _ b, _ :: p => codeAt b p
  | .block _ c, _ :: p => codeAt c p
  | .loop c, _ :: p => codeAt c p
  | .scope c, _ :: p => codeAt c p
  | c, _ => c
def opsAt : Code → List Oper
  | .region _ ops _ => ops.toList
  | _ => []
def bodyOf (f : Func) : Code := match f.body with
  | some c => c
  | none => .skip
theorem wC_seq (e : c = .seq x y) (h : vC P Γ x env L (seqC P Γ y k)) : vC P Γ c env L k := by subst e; exact vC_seq h
theorem wC_region {id : Nat} {l : List Oper} (e : c = .region id l.toArray false) (h : vOps P Γ .seq l l env L (k .normal)) : vC P Γ c env L k := by subst e; exact vC_region h
theorem wC_any {id : Nat} {l : List Oper} (e : c = .region id l.toArray true) (hd : anyOk l = true) (h : vOps P Γ .any l l env L (fun env' L' => lsOk l env' = true ∧ k .normal env' L')) : vC P Γ c env L k := by subst e; exact vC_any hd h
theorem wC_cond {o : Operand} {t : Bool} (e : c = .cond o x y) (hc : evalIn env o = .lit (.bool t)) (ht : t = true → vC P Γ x env L k) (hf : t = false → vC P Γ y env L k) : vC P Γ c env L k := by subst e; exact vC_cond hc ht hf
theorem wC_block {id : Nat} (e : c = .block id d) (h : vC P Γ d env L (blockC id k)) : vC P Γ c env L k := by subst e; exact vC_block h
theorem wC_scope (e : c = .scope d) (h : vC P Γ d env L (scopeC k)) : vC P Γ c env L k := by subst e; exact vC_scope h
theorem wC_skip (e : c = .skip) (h : k .normal env L) : vC P Γ c env L k := by subst e; exact vC_skip h
theorem wC_label {l : Nat} (e : c = .label l) (h : k .normal env L) : vC P Γ c env L k := by subst e; exact vC_label h
theorem wC_exit {id : Nat} (e : c = .exit id) (h : k (.exit id) env L) : vC P Γ c env L k := by subst e; exact vC_exit h
theorem wC_ret (e : c = .ret) (h : k .ret env L) : vC P Γ c env L k := by subst e; exact vC_ret h
def wunrC (P : Program) (Γ : Con) (c : Code) (k : Exit → Env → LH → Prop) : Exit → Env → LH → Prop := fun e env L => match e with
  | .normal => vC P Γ c env L k
  | e => k e env L
theorem wC_unroll (keep : List Nat) (e : c = .loop d) (h : vC P Γ d (narrow keep env) L (wunrC P Γ c k)) : vC P Γ c env L k := by
  subst e
  refine vC_less keep (vC_unroll ?_)
  have : wunrC P Γ (.loop d) k = unrC P Γ d k := by funext e env L; cases e <;> rfl
  rw [← this]; exact h
theorem wunrC_normal (h : vC P Γ c env L k) : wunrC P Γ c k .normal env L := h
theorem wunrC_ret (h : k .ret env L) : wunrC P Γ c k .ret env L := h
theorem wunrC_exit {id : Nat} (h : k (.exit id) env L) : wunrC P Γ c k (.exit id) env L := h
theorem wC_loopI {ι : Type} (e : c = .loop d) (I : ι → Env × LH) (μ : ι → Nat) (i0 : ι) (m : List Nat) (hw : Weak Γ.pin m env L (I i0).1 (I i0).2)
    (step : ∀ i, vC P Γ d (I i).1 (I i).2 (loopC Γ.pin I μ i k)) : vC P Γ c env L k := by subst e; exact vC_loopI I μ i0 m hw step
theorem vOps_open {mode : Mode} {all ops l : List Oper} {k : Env → LH → Prop} (e : ops = l) (h : vOps P Γ mode all l env L k) : vOps P Γ mode all ops env L k := by subst e; exact h
theorem wC_two {id : Nat} {l l1 l2 : List Oper} (p q : Nat) (e : c = .region id l.toArray true) (e1 : ver1 p q l = l1) (e2 : ver2 p q l = l2) (hc : (decide (p ≠ q) && decide (p < l.length) && decide (q < l.length)) = true) (o1 : anyOk l1 = true) (o2 : anyOk l2 = true)
    (h : vOps P Γ .any l1 l1 env L (fun env1 L1 => lsOk l1 env1 = true ∧ vOps P Γ .any l2 l2 env L (fun env2 L2 => lsOk l2 env2 = true ∧ ∃ m, Weak Γ.pin m env2 L2 env1 L1) ∧ k .normal env1 L1)) : vC P Γ c env L k := by
  subst e e1 e2
  simp only [Bool.and_eq_true, decide_eq_true_eq] at hc
  obtain ⟨env1, L1, h1, s1, ⟨env2, L2, h2, s2, m, hw⟩, hk⟩ := h
  refine ⟨.normal, env1, L1, ?_, hk⟩
  exact .regionTwo (p := p) (q := q) (m := m) hc.1.1 (by simpa using hc.1.2) (by simpa using hc.2) (by simpa using h1) (by simpa using o1) (by simpa using s1) (by simpa using h2) (by simpa using o2) (by simpa using s2) hw
end Go.Ab
namespace Go.Ab
open Go Go.RowKit
set_option linter.unusedVariables false
set_option linter.unusedSimpArgs false
set_option linter.constructorNameAsVariable false
variable {P : Program} {Γ : Con} {L L' : LH} {env : Env} {pre : Prop}
def find : Env → Nat → Option PV
  | [], _ => none
  | (i, p) :: r, t => match Nat.beq i t with
    | true => some p
    | false => find r t
def findO (env : Env) : Operand → Option PV
  | .tmp t => find env t
  | .const v => some (.lit v)
  | .func f => some (.fn (.func f) [] [])
  | .global g => some (.rptr ((glv g).map .lit))
def findL (env : Env) : List Operand → Option (List PV)
  | [] => some []
  | x :: r => match findO env x, findL env r with
    | some p, some ps => some (p :: ps)
    | _, _ => none
def findP (env : Env) : List (Nat × Operand) → Option (List (Nat × PV))
  | [] => some []
  | (i, x) :: r => match findO env x, findP env r with
    | some p, some ps => some ((i, p) :: ps)
    | _, _ => none
theorem find_lookup : ∀ {env : Env} {t : Nat} {p : PV}, find env t = some p → lookup env t = p
  | (i, q) :: r, t, p, h => by
    simp only [find] at h
    simp only [lookup]
    cases hb : Nat.beq i t with
    | true =>
      rw [hb] at h
      have : i = t := Nat.eq_of_beq_eq_true hb
      subst this
      simp only [beq_self_eq_true, cond_true]
      exact Option.some.inj h
    | false =>
      rw [hb] at h
      have : (i == t) = false := by
        rw [beq_eq_false_iff_ne]; intro e; subst e; rw [Nat.beq_refl] at hb; cases hb
      rw [this]
      exact find_lookup h
theorem findO_eval {x : Operand} {p : PV} (h : findO env x = some p) : evalIn env x = p := by
  cases x with
  | tmp t => exact find_lookup h
  | const v => exact Option.some.inj h
  | func f => exact Option.some.inj h
  | global g => cases h; rfl
theorem findL_eval : ∀ {xs : List Operand} {ps : List PV}, findL env xs = some ps → xs.map (evalIn env) = ps
  | [], ps, h => by cases h; rfl
  | x :: r, ps, h => by
    simp only [findL] at h
    split at h
    · rename_i p qs h1 h2
      cases h
      rw [List.map_cons, findO_eval h1, findL_eval h2]
    · cases h
theorem findP_eval : ∀ {xs : List (Nat × Operand)} {ps : List (Nat × PV)}, findP env xs = some ps → xs.map (fun x => (x.1, evalIn env x.2)) = ps
  | [], ps, h => by cases h; rfl
  | (i, x) :: r, ps, h => by
    simp only [findP] at h
    split at h
    · rename_i p qs h1 h2
      cases h
      rw [List.map_cons, findO_eval h1, findP_eval h2]
    · cases h
section kinds
variable {mode : Mode} {all r : List Oper} {o : Oper} {k : Env → LH → Prop} {val : PV} {d : Nat}
theorem kOps_mv {x : Operand} (hk : o.op = .move x) (hg : o.guard = none) (hd : o.dst = some d) (hx : findO env x = some val) (h : vOps P Γ mode all r ((d, val) :: env) L k) : vOps P Γ mode all (o :: r) env L k :=
  vOps_mv hk hg hd (findO_eval hx) h
theorem kOps_as {x : Operand} (hk : o.op = .assign x) (hg : o.guard = none) (hd : o.dst = some d) (hx : findO env x = some val) (h : vOps P Γ mode all r ((d, val) :: env) L k) : vOps P Γ mode all (o :: r) env L k :=
  vOps_as hk hg hd (findO_eval hx) h
theorem kOps_asc {v : Value} (hk : o.op = .assign (.const v)) (hg : o.guard = none) (hd : o.dst = some d) (hx : PV.lit v = val) (h : vOps P Γ mode all r ((d, val) :: env) L k) : vOps P Γ mode all (o :: r) env L k :=
  vOps_as hk hg hd hx h
theorem kOps_bin {b : BinOp} {t t2 : TypeId} {x y : Operand} {p q : PV} (hk : o.op = .binOp b t x y t2) (hg : o.guard = none) (hd : o.dst = some d) (hx : findO env x = some p) (hy : findO env y = some q) (hv : ∀ L : LH, binF P b t p q L = ⟨pre, val, L⟩) (hp : pre) (h : vOps P Γ mode all r ((d, val) :: env) L k) : vOps P Γ mode all (o :: r) env L k :=
  vOps_bin hk hg hd (by rw [findO_eval hx, findO_eval hy]; exact hv L) hp h
theorem kOps_un {b : UnOp} {t : TypeId} {x : Operand} {p : PV} (hk : o.op = .unOp b t x) (hg : o.guard = none) (hd : o.dst = some d) (hx : findO env x = some p) (hv : ∀ L : LH, unF b p L = ⟨pre, val, L⟩) (hp : pre) (h : vOps P Γ mode all r ((d, val) :: env) L k) : vOps P Γ mode all (o :: r) env L k :=
  vOps_un hk hg hd (by rw [findO_eval hx]; exact hv L) hp h
theorem kOps_conv {s t : TypeId} {x : Operand} {p : PV} (hk : o.op = .convert s t x) (hg : o.guard = none) (hd : o.dst = some d) (hx : findO env x = some p) (hv : ∀ L : LH, convF P s t p L = ⟨pre, val, L⟩) (hp : pre) (h : vOps P Γ mode all r ((d, val) :: env) L k) : vOps P Γ mode all (o :: r) env L k :=
  vOps_conv hk hg hd (by rw [findO_eval hx]; exact hv L) hp h
theorem kOps_ix {t : TypeId} {x i : Operand} {p q : PV} (hk : o.op = .index t x i) (hg : o.guard = none) (hd : o.dst = some d) (hx : findO env x = some p) (hi : findO env i = some q) (hv : ∀ L : LH, indexF P t p q L = ⟨pre, val, L⟩) (hp : pre) (h : vOps P Γ mode all r ((d, val) :: env) L k) : vOps P Γ mode all (o :: r) env L k :=
  vOps_ix hk hg hd (by rw [findO_eval hx, findO_eval hi]; exact hv L) hp h
theorem kOps_build {t : TypeId} {xs : Array (Nat × Operand)} {ps : List (Nat × PV)} (hk : o.op = .build t xs) (hg : o.guard = none) (hd : o.dst = some d) (hx : findP env xs.toList = some ps) (hv : ∀ L : LH, buildF P t ps L = ⟨pre, val, L⟩) (hp : pre) (h : vOps P Γ mode all r ((d, val) :: env) L k) : vOps P Γ mode all (o :: r) env L k :=
  vOps_build hk hg hd (by rw [findP_eval hx]; exact hv L) hp h
theorem kOps_ext {i : Nat} {x : Operand} {vs : List PV} (hk : o.op = .extract x i) (hg : o.guard = none) (hd : o.dst = some d) (hx : findO env x = some (.tup vs)) (hi : vs[i]? = some val) (h : vOps P Γ mode all r ((d, val) :: env) L k) : vOps P Γ mode all (o :: r) env L k :=
  vOps_ext (pre := True) (L' := L) hk hg hd (by rw [findO_eval hx]; simp only [extractF, hi]) trivial h
theorem kOps_loadp {t : TypeId} {x : Operand} {id off : Nat} {cs : List PV} {T : TI} (hk : o.op = .load t x) (hg : o.guard = none) (hd : o.dst = some d) (hx : findO env x = some (.ptr id off)) (hL : L[id]? = some (.cells cs)) (hT : tyOf P t = some T) (hv : partF T cs off = (pre, val)) (hp : pre) (h : vOps P Γ mode all r ((d, val) :: env) L k) : vOps P Γ mode all (o :: r) env L k :=
  vOps_load (pre := pre) (val := val) (L' := L) hk hg hd (by rw [findO_eval hx]; simp only [loadF, hT, hL, hv]) hp h
theorem kOps_loadr {t : TypeId} {x : Operand} {cs : List PV} {T : TI} (hk : o.op = .load t x) (hg : o.guard = none) (hd : o.dst = some d) (hx : findO env x = some (.rptr cs)) (hT : tyOf P t = some T) (hv : partF T cs 0 = (pre, val)) (hp : pre) (h : vOps P Γ mode all r ((d, val) :: env) L k) : vOps P Γ mode all (o :: r) env L k :=
  vOps_load (pre := pre) (val := val) (L' := L) hk hg hd (by rw [findO_eval hx]; simp only [loadF, hT, hv]) hp h
theorem kOps_ixap {t e n s1 b1 : Nat} {z1 : Value} {x i : Operand} {id off off' : Nat} {kk : IntKind} {z : Int} {cs : List PV} {E : TI} (hk : o.op = .indexAddr t x i) (hg : o.guard = none) (hd : o.dst = some d) (hx : findO env x = some (.ptr id off)) (hi : findO env i = some (.lit (.int kk z))) (hL : L[id]? = some (.cells cs)) (hT : tyOf P t = some ⟨.array n e, s1, b1, z1⟩) (hE : tyOf P e = some E)
    (hv : off + z.toNat * E.size = off') (hp : 0 ≤ z ∧ z < n) (h : vOps P Γ mode all r ((d, .ptr id off') :: env) L k) : vOps P Γ mode all (o :: r) env L k :=
  vOps_ixa (pre := 0 ≤ z ∧ z < n) (val := .ptr id off') (L' := L) hk hg hd (by rw [findO_eval hx, findO_eval hi]; simp only [indexAddrF, hT, hE, hL, hv]) hp h
theorem kOps_ixaq {t e n s1 b1 : Nat} {z1 : Value} {x i : Operand} {kk : IntKind} {z : Int} {cs cs' : List PV} {E : TI} (hk : o.op = .indexAddr t x i) (hg : o.guard = none) (hd : o.dst = some d) (hx : findO env x = some (.rptr cs)) (hi : findO env i = some (.lit (.int kk z))) (hT : tyOf P t = some ⟨.array n e, s1, b1, z1⟩) (hE : tyOf P e = some E)
    (hv : elemAt E cs z.toNat = cs') (hp : 0 ≤ z ∧ z < n ∧ cs.length = n * E.size ∧ 0 < E.size) (h : vOps P Γ mode all r ((d, .rptr cs') :: env) L k) : vOps P Γ mode all (o :: r) env L k :=
  vOps_ixa (pre := 0 ≤ z ∧ z < n ∧ cs.length = n * E.size ∧ 0 < E.size) (val := .rptr cs') (L' := L) hk hg hd (by rw [findO_eval hx, findO_eval hi]; simp only [indexAddrF, hT, hE, hv]) hp h
theorem kOps_store {t : TypeId} {a x : Operand} {id off : Nat} {p : PV} {cs cs' : List PV} {T : TI} (hk : o.op = .store t a x) (hg : o.guard = none) (hd : o.dst = none) (hm : dm mode o.op = false) (ha : findO env a = some (.ptr id off)) (hx : findO env x = some p) (hL : L[id]? = some (.cells cs)) (hT : tyOf P t = some T)
    (hv : splice cs off p.cells = cs') (hp : p.cells.length = T.size ∧ off + T.size ≤ cs.length ∧ p.cells.all PV.one = true) (h : vOps P Γ mode all r env (L.set id (.cells cs')) k) : vOps P Γ mode all (o :: r) env L k :=
  vOps_store (pre := p.cells.length = T.size ∧ off + T.size ≤ cs.length ∧ p.cells.all PV.one = true) (val := .lit undef) (L' := L.set id (.cells cs')) hk hg hd hm (by rw [findO_eval ha, findO_eval hx]; simp only [storeF, hT, hL, hv]) hp h
theorem kOps_alloc {t : TypeId} {T : TI} {row : List PV} {n : Nat} (hk : o.op = .alloc t) (hg : o.guard = none) (hd : o.dst = some d) (hm : dm mode o.op = false) (hT : tyOf P t = some T) (hn : L.length = n) (hv : T.zero.cells.toList.map PV.lit = row) (hp : ∀ v ∈ T.zero.cells.toList, v.oneCell' = true)
    (h : vOps P Γ mode all r ((d, .ptr n 0) :: env) (L ++ [.cells row]) k) : vOps P Γ mode all (o :: r) env L k :=
  vOps_alloc (pre := ∀ v ∈ T.zero.cells.toList, v.oneCell' = true) (val := .ptr n 0) (L' := L ++ [.cells row]) hk hg hd hm (by simp only [allocF, hT, hn, hv]) hp h
theorem kOps_box {t : TypeId} {x : Operand} {p : PV} {row : List PV} {n : Nat} (hk : o.op = .box t x) (hg : o.guard = none) (hd : o.dst = some d) (hm : dm mode o.op = false) (hx : findO env x = some p) (hn : L.length = n) (hv : p.cells = row) (hp : row.all PV.one = true)
    (h : vOps P Γ mode all r ((d, .ptr n 0) :: env) (L ++ [.cells row]) k) : vOps P Γ mode all (o :: r) env L k :=
  vOps_box (pre := row.all PV.one = true) (val := .ptr n 0) (L' := L ++ [.cells row]) hk hg hd hm (by rw [findO_eval hx]; simp only [boxF, hn, hv]) hp h
theorem kOps_callc {g : FuncId} {args : Array Operand} {tys : Array TypeId} {S : List PV → Prop × PV} {ps : List PV} (hk : o.op = .call ⟨.value (.func g), args, tys⟩) (hg : o.guard = none) (hd : o.dst = some d) (hΓ : Γ.tab g = .pure S) (hx : findL env args.toList = some ps) (hv : S ps = (pre, val)) (hc : closedL ps = true) (hr : closed val = true) (hp : pre)
    (h : vOps P Γ mode all r ((d, val) :: env) L k) : vOps P Γ mode all (o :: r) env L k := by
  refine vOps_call (b := dm mode o.op) (pre := True) (val := val) (L' := L) hk hg hd rfl ?_ trivial h
  rw [findL_eval hx]
  have hb : ps.map (borrow L) = ps := by
    rw [closedL_iff] at hc
    conv => rhs; rw [← List.map_id ps]
    exact List.map_congr_left fun p hp => by simp only [borrow, hc p hp, cond_true, id]
  have hbo : ∀ p ∈ ps, borrowOk L p := fun p hp => .inl ((closedL_iff.1 hc) p hp)
  simp only [callF, hΓ, pureF, hb, hv, hc, true_or, and_true]
  rw [adopt_closed hr]
  simp only [OR.mk.injEq, and_true, eq_iff_iff, iff_true]
  exact ⟨hp, hbo⟩
theorem kOps_calle {g : FuncId} {args : Array Operand} {tys : Array TypeId} {S : List PV → Prop × PV} {ps : List PV} (hk : o.op = .call ⟨.value (.func g), args, tys⟩) (hg : o.guard = none) (hd : o.dst = some d) (hΓ : Γ.tab g = .ext S) (hx : findL env args.toList = some ps) (hv : S ps = (pre, val)) (hp : pre)
    (h : vOps P Γ mode all r ((d, val) :: env) L k) : vOps P Γ mode all (o :: r) env L k := by
  refine vOps_call (b := dm mode o.op) (pre := pre) (val := val) (L' := L) hk hg hd rfl ?_ hp h
  rw [findL_eval hx]
  simp only [callF, hΓ, hv]
theorem kOps_calls {g : FuncId} {args : Array Operand} {tys : Array TypeId} {T : List PV → LH → OR} {ps : List PV} (hk : o.op = .call ⟨.value (.func g), args, tys⟩) (hg : o.guard = none) (hd : o.dst = some d) (hm : dm mode o.op = false) (hΓ : Γ.tab g = .st T) (hx : findL env args.toList = some ps) (hv : T ps L = ⟨pre, val, L'⟩) (hp : pre)
    (h : vOps P Γ mode all r ((d, val) :: env) L' k) : vOps P Γ mode all (o :: r) env L k := by
  refine vOps_call (b := false) (pre := pre) (val := val) (L' := L') hk hg hd hm ?_ hp h
  rw [findL_eval hx]
  simp only [callF, hΓ, cond_false]
  exact hv
theorem kC_cond {c : Code} {x y : Code} {q : Operand} {t : Bool} {k : Exit → Env → LH → Prop} (e : c = .cond q x y) (hc : findO env q = some (.lit (.bool t))) (ht : t = true → vC P Γ x env L k) (hf : t = false → vC P Γ y env L k) : vC P Γ c env L k := wC_cond e (findO_eval hc) ht hf
end kinds
def findK (env : Env) : List Nat → Option Env
  | [] => some []
  | t :: r => match find env t, findK env r with
    | some p, some ps => some ((t, p) :: ps)
    | _, _ => none
theorem findK_narrow : ∀ {keep : List Nat} {env2 : Env}, findK env keep = some env2 → narrow keep env = env2
  | [], _, h => by cases h; rfl
  | t :: r, env2, h => by
    simp only [findK] at h
    split at h
    · rename_i p qs h1 h2
      cases h
      have := findK_narrow h2
      simp only [narrow, List.map_cons] at this ⊢
      rw [find_lookup h1, this]
    · cases h
def copyL : LH → Option LH
  | [] => some []
  | a :: r => match copyL r with
    | some r' => some (a :: r')
    | none => none
theorem copyL_eq : ∀ {L L2 : LH}, copyL L = some L2 → L = L2
  | [], _, h => by cases h; rfl
  | a :: r, L2, h => by
    simp only [copyL] at h
    split at h
    · rename_i r' hr
      cases h
      rw [copyL_eq hr]
    · cases h
theorem kC_unroll {c d : Code} {env2 : Env} {L2 : LH} {k : Exit → Env → LH → Prop} (keep : List Nat) (e : c = .loop d) (hk : findK env keep = some env2) (hL : copyL L = some L2) (h : vC P Γ d env2 L2 (wunrC P Γ c k)) : vC P Γ c env L k := by
  refine wC_unroll keep e ?_
  rw [findK_narrow hk, copyL_eq hL]
  exact h
theorem n_add_zero (n : Nat) : n + 0 = n := by omega
theorem n_sub_zero (n : Nat) : n - 0 = n := by omega
theorem kC_less {c : Code} {env2 : Env} {L2 : LH} {k : Exit → Env → LH → Prop} (keep : List Nat) (hk : findK env keep = some env2) (hL : copyL L = some L2) (h : vC P Γ c env2 L2 k) : vC P Γ c env L k := by
  refine vC_less keep ?_
  rw [findK_narrow hk, copyL_eq hL]
  exact h
theorem set_get {i : Nat} {x y : LE} (h : L[i]? = some y) : (L.set i x)[i]? = some x := by
  have hi := (List.getElem?_eq_some_iff.1 h).1
  simp [hi]
theorem set_get_ne {i j : Nat} {x : LE} (h : i ≠ j) : (L.set i x)[j]? = L[j]? := List.getElem?_set_ne h
theorem set_set' {i : Nat} {x y : LE} : (L.set i x).set i y = L.set i y := List.set_set ..
theorem kOps_storeS {mode : Mode} {all r : List Oper} {o : Oper} {k : Env → LH → Prop} {t : TypeId} {a x : Operand} {id off : Nat} {p : PV} {cs cs' : List PV} {T : TI} {L2 : LH} (hk : o.op = .store t a x) (hg : o.guard = none) (hd : o.dst = none) (hm : dm mode o.op = false) (ha : findO env a = some (.ptr id off)) (hx : findO env x = some p) (hL : L[id]? = some (.cells cs)) (hT : tyOf P t = some T)
    (hv : splice cs off p.cells = cs') (hs : L.set id (.cells cs') = L2) (hp : p.cells.length = T.size ∧ off + T.size ≤ cs.length ∧ p.cells.all PV.one = true) (h : vOps P Γ mode all r env L2 k) : vOps P Γ mode all (o :: r) env L k := by
  subst hs; exact kOps_store hk hg hd hm ha hx hL hT hv hp h
theorem kOps_nilp {mode : Mode} {all r : List Oper} {o : Oper} {k : Env → LH → Prop} {x : Operand} {d id off : Nat} {cs : List PV} (hk : o.op = .nilCheck x) (hg : o.guard = none) (hd : o.dst = some d) (hx : findO env x = some (.ptr id off)) (hL : L[id]? = some (.cells cs)) (h : vOps P Γ mode all r ((d, .ptr id off) :: env) L k) : vOps P Γ mode all (o :: r) env L k :=
  vOps_op (pre := True) (val := .ptr id off) (L' := L) hg hd (by rw [hk]) (by rw [hk]; simp only [opF, findO_eval hx, hL]) trivial h
theorem step_gon {all : List Oper} {o : Oper} {draw : Bool} {j g : Nat} {want : Bool} {v : PV} {L1 : LH} (hg : o.guard = some (j, want)) (hj : (all[j]?).bind (·.dst) = some g) (hl : lookup env g = .lit (.bool want))
    (h : stepV P Γ draw all { o with guard := none } env L v L1) : stepV P Γ draw all o env L v L1 := by
  rcases h with ⟨_, h⟩ | ⟨hb, _⟩
  · exact .inl ⟨.inr ⟨j, want, g, hg, hj, .inl ⟨want, hl, by simp⟩⟩, h⟩
  · rcases hb with ⟨_, hb⟩ | ⟨j', w', d, hb, _⟩
    · cases hb
    · cases hb
theorem lrun_gon {all r : List Oper} {o : Oper} {j g : Nat} {want : Bool} (hg : o.guard = some (j, want)) (hj : (all[j]?).bind (·.dst) = some g) :
    ∀ {ops : List Oper} {env : Env} {L : LH} {env' : Env} {L' : LH}, LRun P Γ all ops env L env' L' → ops = { o with guard := none } :: r → lookup env g = .lit (.bool want) → LRun P Γ all (o :: r) env L env' L' := by
  intro ops env L env' L' h
  induction h with
  | nil => intro e; cases e
  | @cons o1 r1 env L v L1 env' L' hs k ih =>
    intro e hl
    cases e
    exact .cons (step_gon hg hj hl hs) k
  | @freeze ops env L t id off n sz env' L' h1 h2 h3 k ih =>
    intro e hl
    refine .freeze h1 h2 h3 (ih e ?_)
    rw [lookup_cons]
    by_cases c : t = g
    · subst c; rw [h1] at hl; cases hl
    · rw [beq_eq_false_iff_ne.2 c]; exact hl
  | @freezep ops env L t id cs env' L' h1 h2 h3 k ih =>
    intro e hl
    refine .freezep h1 h2 h3 (ih e ?_)
    rw [lookup_cons]
    by_cases c : t = g
    · subst c; rw [h1] at hl; cases hl
    · rw [beq_eq_false_iff_ne.2 c]; exact hl
theorem kOps_gon {mode : Mode} {all r : List Oper} {o : Oper} {k : Env → LH → Prop} {j g : Nat} {want : Bool} {p : PV} (hm : (match mode with | .draw => false | _ => true) = true) (hg : o.guard = some (j, want)) (hj : (all[j]?).bind (·.dst) = some g) (hf : find env g = some p) (hp : p = .lit (.bool want))
    (h : vOps P Γ mode all ({ o with guard := none } :: r) env L k) : vOps P Γ mode all (o :: r) env L k := by
  have hl : lookup env g = .lit (.bool want) := by rw [find_lookup hf, hp]
  cases mode
  · obtain ⟨env', L', h1, h2⟩ := h
    exact ⟨env', L', lrun_gon hg hj h1 rfl hl, h2⟩
  · cases hm
  · obtain ⟨env', L', ⟨v, L1, hs, h1⟩, h2⟩ := h
    exact ⟨env', L', ⟨v, L1, step_gon hg hj hl hs, h1⟩, h2⟩
theorem kOps_gofft {mode : Mode} {all r : List Oper} {o : Oper} {k : Env → LH → Prop} {j g d : Nat} {p : PV} (hg : o.guard = some (j, true)) (hd : o.dst = some d) (hj : (all[j]?).bind (·.dst) = some g) (hf : find env g = some p) (hp : p = .lit (.bool false))
    (h : vOps P Γ mode all r ((d, .lit undef) :: env) L k) : vOps P Γ mode all (o :: r) env L k :=
  vOps_gskip hg hj (by rw [find_lookup hf, hp]) ft_ne (by rw [hd]; exact h)
theorem kOps_gofff {mode : Mode} {all r : List Oper} {o : Oper} {k : Env → LH → Prop} {j g d : Nat} {p : PV} (hg : o.guard = some (j, false)) (hd : o.dst = some d) (hj : (all[j]?).bind (·.dst) = some g) (hf : find env g = some p) (hp : p = .lit (.bool true))
    (h : vOps P Γ mode all r ((d, .lit undef) :: env) L k) : vOps P Γ mode all (o :: r) env L k :=
  vOps_gskip hg hj (by rw [find_lookup hf, hp]) tf_ne (by rw [hd]; exact h)
theorem kOps_pickt {mode : Mode} {all r : List Oper} {o : Oper} {k : Env → LH → Prop} {d : Nat} {c x y : Operand} {p val : PV} (hk : o.op = .pick c x y) (hg : o.guard = none) (hd : o.dst = some d) (hc : findO env c = some p) (hp : p = .lit (.bool true)) (hv : findO env x = some val)
    (h : vOps P Γ mode all r ((d, val) :: env) L k) : vOps P Γ mode all (o :: r) env L k :=
  vOps_pick (t := true) hg hd hk (by rw [findO_eval hc, hp]) (findO_eval hv) h
theorem kOps_pickf {mode : Mode} {all r : List Oper} {o : Oper} {k : Env → LH → Prop} {d : Nat} {c x y : Operand} {p val : PV} (hk : o.op = .pick c x y) (hg : o.guard = none) (hd : o.dst = some d) (hc : findO env c = some p) (hp : p = .lit (.bool false)) (hv : findO env y = some val)
    (h : vOps P Γ mode all r ((d, val) :: env) L k) : vOps P Γ mode all (o :: r) env L k :=
  vOps_pick (t := false) hg hd hk (by rw [findO_eval hc, hp]) (findO_eval hv) h
end Go.Ab
