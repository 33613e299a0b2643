import Derived.Test.YtakffanafcidbaaAbI
import Derived.Tactics
namespace Go.Ab
open Go Go.RowKit
set_option linter.unusedVariables false
set_option linter.unusedSimpArgs false

abbrev Env := List (Nat × PV)
variable {P : Program} {Γ : Con} {X : Nat → Prop} {β : List Base} {w : World} {L : LH} {N : Nat}

/-- Whether a guarded operation runs. -/
def GuardIs (all : List Oper) (env : Env) (o : Oper) (b : Bool) : Prop :=
  (o.guard = none ∧ b = true) ∨
  ∃ j want d, o.guard = some (j, want) ∧ (all[j]?).bind (·.dst) = some d ∧
    ((∃ x, lookup env d = .lit (.bool x) ∧ b = (x == want)) ∨ (∃ vs, lookup env d = .lit (.tuple vs) ∧ b = false))

def stepV (P : Program) (Γ : Con) (draw : Bool) (all : List Oper) (o : Oper) (env : Env) (L : LH) (v : PV) (L' : LH) : Prop :=
  (GuardIs all env o true ∧ ((∃ c a b t, o.op = .pick c a b ∧ evalIn env c = .lit (.bool t) ∧ v = (if t then evalIn env a else evalIn env b) ∧ L' = L) ∨
      ((opF P Γ draw (evalIn env) L o.op).pre ∧ v = (opF P Γ draw (evalIn env) L o.op).val ∧ L' = (opF P Γ draw (evalIn env) L o.op).L))) ∨
  (GuardIs all env o false ∧ v = .lit undef ∧ L' = L)

theorem guard_wanted {all : List Oper} {env : Env} {o : Oper} {b : Bool} {a : Act} (hA : RepA N X β w env a) (h : GuardIs all env o b) : Region.wanted o (yielded all.toArray a.tmps) = b := by
  rcases h with ⟨h1, h2⟩ | ⟨j, want, d, h1, h2, h3⟩
  · simp [Region.wanted, h1, h2]
  · have h2' : (all.toArray[j]?).bind (·.dst) = some d := by simpa using h2
    have hs := hA.slot d
    rcases h3 with ⟨x, h3, h4⟩ | ⟨vs, h3, h4⟩
    · rw [h3] at hs
      simp only [RepV] at hs
      have : a.tmps[d]? = some (.bool x) := by
        cases hd : a.tmps[d]? with
        | none => simp [hd, undef] at hs
        | some u => simp [hd] at hs; rw [hs]
      simp only [Region.wanted, h1, yielded, h2', Option.bind_some, this]
      rw [h4]; cases x <;> cases want <;> rfl
    · rw [h3] at hs
      simp only [RepV] at hs
      simp only [Region.wanted, h1, yielded, h2', Option.bind_some]
      cases hd : a.tmps[d]? with
      | none => simp [h4]
      | some u =>
        simp [hd] at hs
        subst hs
        simp [h4]

/-- One step of a region, whatever the order. -/
theorem step_sound (hΓ : GammaOk P Γ) {draw : Bool} {all : List Oper} {o : Oper} {env : Env} {v : PV} {L' : LH} {a : Act} {Q : Exit → Act → World → Prop} {K : Act → World → Prop}
    (h : stepV P Γ draw all o env L v L') (hA : RepA N X β w env a) (hH : RepH X β w L) (hd : ∀ d, o.dst = some d → d < N)
    (hK : ∀ a' w' β', RepA N X β' w' (putIn env o.dst v) a' → RepH X β' w' L' → Grow β β' w w' → (draw = true → β' = β ∧ L' = L) → K a' w') :
    if Region.wanted o (yielded all.toArray a.tmps) then o.wp P a w K Q else K (a.put o.dst undef) w := by
  rcases h with ⟨hg, h⟩ | ⟨hg, rfl, rfl⟩
  · rw [guard_wanted hA hg]
    simp only [if_true]
    rcases h with ⟨c, x, y, t, hop, hc, rfl, rfl⟩ | ⟨hpre, rfl, rfl⟩
    · have hcv := hA.eval c
      rw [hc] at hcv
      simp only [RepV] at hcv
      have hx : (execOp a.eval o).run P w = .ok (.value (if t then a.eval x else a.eval y)) w := by
        simp [execOp, hop, hcv, asBool]
      unfold Oper.wp
      rw [hx]
      simp only [Oper.upon]
      refine hK _ w β (hA.put hd ?_) hH (Grow.refl β w) (fun _ => ⟨rfl, rfl⟩)
      cases t
      · simpa using hA.eval y
      · simpa using hA.eval x
    · exact op_sound hΓ hA hH hpre K Q (fun u w' β' h1 h2 h3 h4 => hK _ w' β' ((hA.grow h3).put hd h1) h2 h3 h4)
  · rw [guard_wanted hA hg]
    simp only [Bool.false_eq_true, if_false]
    exact hK _ w β (hA.put hd (by simp [RepV])) hH (Grow.refl β w) (fun _ => ⟨rfl, rfl⟩)

def TRun (P : Program) (Γ : Con) (draw : Bool) (all : List Oper) : List Oper → Env → LH → Env → LH → Prop
  | [], env, L, env', L' => env' = env ∧ L' = L
  | o :: r, env, L, env', L' => ∃ v L1, stepV P Γ draw all o env L v L1 ∧ TRun P Γ draw all r (putIn env o.dst v) L1 env' L'

theorem list_sound (hΓ : GammaOk P Γ) {all : List Oper} {Q : Exit → Act → World → Prop} : ∀ (ops : List Oper) {env env' : Env} {L L' : LH} {β : List Base} {w : World} {a : Act},
    TRun P Γ false all ops env L env' L' → RepA N X β w env a → RepH X β w L → (∀ o ∈ ops, ∀ d, o.dst = some d → d < N) →
    (∀ a' w' β', RepA N X β' w' env' a' → RepH X β' w' L' → Grow β β' w w' → Q .normal a' w') → wpList P all.toArray Q ops a w
  | [], env, env', L, L', β, w, a, h, hA, hH, _, hQ => by
    obtain ⟨rfl, rfl⟩ := h
    exact hQ a w β hA hH (Grow.refl β w)
  | o :: r, env, env', L, L', β, w, a, h, hA, hH, hd, hQ => by
    obtain ⟨v, L1, hs, hr⟩ := h
    have := step_sound (Q := Q) (K := wpList P all.toArray Q r) hΓ hs hA hH (hd o (by simp)) (fun a1 w1 β1 e1 e2 e3 _ =>
      list_sound hΓ r hr e1 e2 (fun o ho => hd o (by simp [ho])) (fun a' w' β' f1 f2 f3 => hQ a' w' β' f1 f2 (e3.trans f3)))
    unfold wpList
    split
    · rename_i hw; rw [if_pos hw] at this; exact .inl this
    · rename_i hw; rw [if_neg hw] at this; exact this

/-- The slots that an operation reads. -/
def reads (all : List Oper) (o : Oper) : List Nat :=
  (o.op.operands.toList.filterMap fun | .tmp t => some t | _ => none) ++ (match o.guard with | some (j, _) => ((all[j]?).bind (·.dst)).toList | none => [])

theorem evalIn_congr {env env' : Env} {o : Op} (h : ∀ t ∈ (o.operands.toList.filterMap fun | .tmp t => some t | _ => none), lookup env t = lookup env' t) : ∀ x ∈ o.operands, evalIn env x = evalIn env' x := by
  intro x hx
  cases x with
  | tmp t => exact h t (List.mem_filterMap.2 ⟨.tmp t, by simpa using hx, rfl⟩)
  | const v => rfl
  | global g => rfl
  | func f => rfl

theorem opF_congr {draw : Bool} {ρ ρ' : Operand → PV} (op : Op) (h : ∀ x ∈ op.operands, ρ x = ρ' x) : opF P Γ draw ρ L op = opF P Γ draw ρ' L op := by
  cases op <;> simp only [Op.operands] at h <;> simp only [opF] <;> try (simp_all; done)
  case buildSlice t len parts =>
    congr 1
    apply List.map_congr_left
    intro x hx
    have := h x.2 (by simp; exact ⟨x.1, by simpa using hx⟩)
    rw [this]
  case slice t x lo hi mx => cases lo <;> cases hi <;> cases mx <;> simp_all
  case call c =>
    obtain ⟨callee, ⟨args⟩, ⟨argTypes⟩⟩ := c
    simp only [Call.operands] at h
    have ha : ∀ x ∈ args, ρ x = ρ' x := fun x hx => h x (by simp [hx])
    simp only
    split
    · simp_all
    · simp_all
    · simp_all
    · simp_all
    · rw [List.map_congr_left ha]
    · rfl

theorem stepV_congr {draw : Bool} {all : List Oper} {o : Oper} {env env' : Env} {v : PV} {L' : LH} (h : ∀ t ∈ reads all o, lookup env t = lookup env' t) (hs : stepV P Γ draw all o env L v L') : stepV P Γ draw all o env' L v L' := by
  have hop : ∀ x ∈ o.op.operands, evalIn env x = evalIn env' x := evalIn_congr (fun t ht => h t (List.mem_append_left _ ht))
  have hg : ∀ b, GuardIs all env o b → GuardIs all env' o b := by
    rintro b (h1 | ⟨j, want, d, h1, h2, h3⟩)
    · exact .inl h1
    · have hd : lookup env d = lookup env' d := h d (List.mem_append_right _ (by simp [h1, h2]))
      rw [hd] at h3
      exact .inr ⟨j, want, d, h1, h2, h3⟩
  rcases hs with ⟨h1, h2⟩ | ⟨h1, h2, h3⟩
  · refine .inl ⟨hg _ h1, ?_⟩
    rcases h2 with ⟨c, a, b, t, h2, h3, h4, h5⟩ | ⟨h2, h3, h4⟩
    · left
      have hc := hop c (by simp [h2, Op.operands])
      have ha := hop a (by simp [h2, Op.operands])
      have hb := hop b (by simp [h2, Op.operands])
      exact ⟨c, a, b, t, h2, by rw [← hc]; exact h3, by rw [← ha, ← hb]; exact h4, h5⟩
    · right
      rw [opF_congr o.op hop] at h2 h3 h4
      exact ⟨h2, h3, h4⟩
  · exact .inr ⟨hg _ h1, h2, h3⟩

/-- An edge that binds in every order. -/
def bound (ops : List Oper) (i j : Nat) : Bool :=
  match ops[i]? with
  | some o => o.after.toList.any fun e => Region.binds .any e && e.on == j
  | none => false

/-- No order of the region's operations is seen by any of them. -/
def drawOk (ops : List Oper) : Bool :=
  (List.range ops.length).all fun i => match ops[i]? with
    | none => true
    | some o =>
      (o.after.toList.all fun e => !Region.binds .any e || decide (e.on < i)) &&
      (List.range ops.length).all fun j => match ops[j]? with
        | none => true
        | some q => match q.dst with
          | none => true
          | some d =>
            (if (reads ops o).contains d then (if j < i then bound ops i j else if i < j then bound ops j i else false) else true) &&
            (decide (i = j) || o.dst != some d)

theorem drawOk_spec {ops : List Oper} (h : drawOk ops = true) :
    (∀ (i : Nat) (o : Oper), ops[i]? = some o → ∀ e ∈ o.after.toList, Region.binds .any e = true → e.on < i) ∧
    (∀ (i : Nat) (o : Oper) (j : Nat) (q : Oper) (d : Nat), ops[i]? = some o → ops[j]? = some q → q.dst = some d → d ∈ reads ops o → (j < i ∧ bound ops i j = true) ∨ (i < j ∧ bound ops j i = true)) ∧
    (∀ (i : Nat) (o : Oper) (j : Nat) (q : Oper) (d : Nat), ops[i]? = some o → ops[j]? = some q → q.dst = some d → o.dst = some d → i = j) := by
  unfold drawOk at h
  rw [List.all_eq_true] at h
  have base : ∀ (i : Nat) (o : Oper), ops[i]? = some o → (o.after.toList.all fun e => !Region.binds .any e || decide (e.on < i)) = true ∧ ∀ (j : Nat) (q : Oper) (d : Nat), ops[j]? = some q → q.dst = some d →
      ((if (reads ops o).contains d then (if j < i then bound ops i j else if i < j then bound ops j i else false) else true) = true ∧ (i = j ∨ o.dst ≠ some d)) := by
    intro i o ho
    have hi := h i (by simp; exact (List.getElem?_eq_some_iff.1 ho).1)
    rw [ho] at hi
    simp only [Bool.and_eq_true] at hi
    refine ⟨hi.1, fun j q d hq hd => ?_⟩
    have hj := List.all_eq_true.1 hi.2 j (by simp; exact (List.getElem?_eq_some_iff.1 hq).1)
    rw [hq] at hj
    simp only [hd, Bool.and_eq_true, Bool.or_eq_true, decide_eq_true_eq, bne_iff_ne] at hj
    exact hj
  refine ⟨fun i o ho e he hb => ?_, fun i o j q d ho hq hd hr => ?_, fun i o j q d ho hq hd hod => ?_⟩
  · have := List.all_eq_true.1 (base i o ho).1 e he
    simpa [hb] using this
  · have := ((base i o ho).2 j q d hq hd).1
    rw [if_pos (by simpa using hr)] at this
    split at this
    · exact .inl ⟨‹_›, this⟩
    · split at this
      · exact .inr ⟨‹_›, this⟩
      · cases this
  · rcases ((base i o ho).2 j q d hq hd).2 with h | h
    · exact h
    · exact absurd hod h

end Go.Ab
