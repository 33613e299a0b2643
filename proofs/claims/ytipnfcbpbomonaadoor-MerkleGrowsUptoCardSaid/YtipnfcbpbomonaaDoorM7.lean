import Derived.Test.YtipnfcbpbomonaaDoorM6
namespace Go.Ab
open Go Go.RowKit
set_option linter.unusedVariables false
set_option linter.unusedSimpArgs false
variable {P : Program} {Γ : Con} {X : Nat → Prop} {β : List Base} {w : World} {L : LH} {N B : Nat} {rr : Option Nat}
def ARun (P : Program) (Γ : Con) (all : List Oper) : List Oper → Env → LH → Env → LH → Prop
  | [], env, L, env', L' => env' = env ∧ L' = L
  | o :: r, env, L, env', L' => ∃ v L1, stepV P Γ (md o.op) all o env L v L1 ∧ ARun P Γ all r (putIn env o.dst v) L1 env' L'
theorem arun_vals {all : List Oper} : ∀ {ops : List Oper} {env env' : Env} {L L' : LH}, ARun P Γ all ops env L env' L' →
    ∃ (vs : List PV) (Ls : Nat → LH), vs.length = ops.length ∧ env' = puts env ((ops.map (·.dst)).zip vs) ∧ Ls 0 = L ∧ Ls ops.length = L' ∧
      ∀ (i : Nat) o v, ops[i]? = some o → vs[i]? = some v → stepV P Γ (md o.op) all o (puts env (((ops.map (·.dst)).zip vs).take i)) (Ls i) v (Ls (i + 1))
  | [], env, env', L, L', h => by
    obtain ⟨rfl, rfl⟩ := h
    exact ⟨[], fun _ => L', rfl, rfl, rfl, rfl, fun i o v ho => by simp at ho⟩
  | o :: ops, env, env', L, L', h => by
    obtain ⟨v, L1, hs, hr⟩ := h
    obtain ⟨vs, Ls, h1, h2, h3, h4, h5⟩ := arun_vals hr
    refine ⟨v :: vs, fun i => match i with | 0 => L | i + 1 => Ls i, by simp [h1], by rw [h2]; rfl, rfl, by simpa using h4, fun i q u hq hu => ?_⟩
    cases i with
    | zero => simp at hq hu; subst hq hu; simp only; rw [h3]; exact hs
    | succ i => simp at hq hu; exact h5 i q u hq hu
section any
variable {all : List Oper} {vs : List PV} {env0 env1 : Env} {Q : Exit → Act → World → Prop} {Ls : Nat → LH}
theorem anyOk_spec (h : anyOk all = true) : drawOk all = true ∧ ∀ (i j : Nat) o q, i < j → all[i]? = some o → all[j]? = some q →
    boundTo all i j = true ∨ freeP (cls o.op) (cls q.op) = true ∨ (isLS o.op q.op = true ∧ steady all i (addrOf o.op) = true ∧ steady all j (addrOf q.op) = true) ∨ (isLS o.op q.op = false ∧ (free1 all i o.op = true ∨ free1 all j q.op = true ∨ ap1 all i o j q = true ∨ ap1 all j q i o = true)) := by
  simp only [anyOk, Bool.and_eq_true] at h
  refine ⟨h.1, fun i j o q hij ho hq => ?_⟩
  have := List.all_eq_true.1 h.2 j (by simp; exact (List.getElem?_eq_some_iff.1 hq).1)
  have := List.all_eq_true.1 this i (by simpa using hij)
  simp only [pairOk, ho, hq, Bool.or_eq_true, Bool.and_eq_true, Bool.not_eq_true', or_assoc, and_assoc] at this
  rcases this with h | h | h | h
  · exact .inl h
  · exact .inr (.inl h)
  · exact .inr (.inr (.inl h))
  · exact .inr (.inr (.inr h))
theorem lsOk_spec {env : Env} (h : lsOk all env = true) {i j : Nat} {o q : Oper} (hij : i < j) (ho : all[i]? = some o) (hq : all[j]? = some q) :
    boundTo all i j = true ∨ freeP (cls o.op) (cls q.op) = true ∨ (isLS o.op q.op = true ∧ rowNe (addrV env (addrOf o.op)) (addrV env (addrOf q.op)) = true) ∨ (isLS o.op q.op = false ∧ ((free1 all i o.op = true ∧ free0 env o.op = true) ∨ (free1 all j q.op = true ∧ free0 env q.op = true) ∨ ap2 all env i o j q = true ∨ ap2 all env j q i o = true)) := by
  have := List.all_eq_true.1 h j (by simp; exact (List.getElem?_eq_some_iff.1 hq).1)
  have := List.all_eq_true.1 this i (by simpa using hij)
  simp only [ho, hq, Bool.or_eq_true, Bool.and_eq_true, Bool.not_eq_true', or_assoc] at this
  exact this
theorem steady_lookup (hl : vs.length = all.length) {i t : Nat} (h : steady all i (some t) = true) :
    lookup (puts env0 ((all.map (·.dst)).zip vs)) t = lookup (puts env0 (((all.map (·.dst)).zip vs).take i)) t := by
  have e : puts env0 ((all.map (·.dst)).zip vs) = puts (puts env0 (((all.map (·.dst)).zip vs).take i)) (((all.map (·.dst)).zip vs).drop i) := by
    rw [puts, puts, puts, ← List.foldl_append, List.take_append_drop]
  rw [e]
  refine puts_none fun x hx he => ?_
  obtain ⟨k, hk⟩ := List.getElem?_of_mem hx
  rw [List.getElem?_drop] at hk
  obtain ⟨q, h1, h2, _⟩ := (zip_get hl).1 hk
  have := List.all_eq_true.1 h (i + k) (by simp; exact (List.getElem?_eq_some_iff.1 h1).1)
  rw [h1] at this
  simp only [Bool.or_eq_true, decide_eq_true_eq, bne_iff_ne] at this
  rcases this with h | h
  · omega
  · exact h (by rw [← h2]; exact he)
theorem any_move (hok : anyOk all = true) (hls : lsOk all (puts env0 ((all.map (·.dst)).zip vs)) = true) (hl : vs.length = all.length)
    (hv : ∀ (i : Nat) o v, all[i]? = some o → vs[i]? = some v → stepV P Γ (md o.op) all o (puts env0 (((all.map (·.dst)).zip vs).take i)) (Ls i) v (Ls (i + 1)))
    {i j : Nat} {o q : Oper} {v : PV} (hi : all[i]? = some o) (hvi : vs[i]? = some v) (hj : all[j]? = some q) (hw : isW (cls o.op) = false) (hne : i ≠ j)
    (hun : if i < j then boundTo all i j = false else boundTo all j i = false) :
    (i < j → stepV P Γ true all o (puts env0 (((all.map (·.dst)).zip vs).take i)) (Ls j) v (Ls j) → stepV P Γ true all o (puts env0 (((all.map (·.dst)).zip vs).take i)) (Ls (j + 1)) v (Ls (j + 1))) ∧
    (j < i → stepV P Γ true all o (puts env0 (((all.map (·.dst)).zip vs).take i)) (Ls (j + 1)) v (Ls (j + 1)) → stepV P Γ true all o (puts env0 (((all.map (·.dst)).zip vs).take i)) (Ls j) v (Ls j)) := by
  have hjl : j < vs.length := by rw [hl]; exact (List.getElem?_eq_some_iff.1 hj).1
  have hsj := hv j q vs[j] hj (by simp [hjl])
  by_cases hwj : isW (cls q.op) = true
  case neg =>
    have hmd : md q.op = true := by simp only [md]; cases h : isW (cls q.op) <;> simp_all
    rw [hmd] at hsj
    have e := stepV_draw hsj
    exact ⟨fun _ h => by rw [e]; exact h, fun _ h => by rw [e] at h; exact h⟩
  have hmd : md q.op = false := by simp only [md, hwj, Bool.not_true]
  rw [hmd] at hsj
  by_cases hm : cls o.op = .m
  · exact ⟨fun _ h => stepV_same h (fun _ => same_m hm _ _), fun _ h => stepV_same h (fun _ => same_m hm _ _)⟩
  have set_back : ∀ {id : Nat} {c c' : List PV}, (Ls j)[id]? = some (.cells c) → Ls (j + 1) = (Ls j).set id (.cells c') → (Ls (j + 1))[id]? = some (.cells c') ∧ Ls j = (Ls (j + 1)).set id (.cells c) := by
    intro id c c' h1 h2
    have hlt := (List.getElem?_eq_some_iff.1 h1).1
    refine ⟨by rw [h2]; simp [hlt], ?_⟩
    rw [h2, List.set_set]
    apply List.ext_getElem?
    intro k
    rw [List.getElem?_set]
    split
    · rename_i e; subst e; exact h1
    · rfl
  have exempt : isLS o.op q.op = true → steady all i (addrOf o.op) = true → steady all j (addrOf q.op) = true → (rowNe (addrV (puts env0 ((all.map (·.dst)).zip vs)) (addrOf o.op)) (addrV (puts env0 ((all.map (·.dst)).zip vs)) (addrOf q.op)) = true ∨ rowNe (addrV (puts env0 ((all.map (·.dst)).zip vs)) (addrOf q.op)) (addrV (puts env0 ((all.map (·.dst)).zip vs)) (addrOf o.op)) = true) →
      ∀ a b : LH, (a = Ls j ∧ b = Ls (j + 1) ∨ a = Ls (j + 1) ∧ b = Ls j) → stepV P Γ true all o (puts env0 (((all.map (·.dst)).zip vs).take i)) a v a → stepV P Γ true all o (puts env0 (((all.map (·.dst)).zip vs).take i)) b v b := by
    intro h1 h2 h3 h4 a b hab h
    obtain ⟨t, x, y, ho⟩ : ∃ t x, ∃ y : Nat, o.op = .load t (.tmp x) := by
      cases ho : o.op <;> rw [ho] at h1 hw <;> (try simp only [isLS] at h1) <;> first | (cases h1; done) | skip
      case load t a => cases a <;> first | exact ⟨_, _, 0, rfl⟩ | (simp at h1; done)
      case store => simp [cls, isW] at hw
    obtain ⟨t2, x2, y2, hq⟩ : ∃ t x y, q.op = .store t (.tmp x) y := by
      rw [ho] at h1
      cases hq : q.op <;> rw [hq] at h1 <;> (try simp only [isLS] at h1) <;> first | (cases h1; done) | skip
      case store t a y => cases a <;> first | exact ⟨_, _, _, rfl⟩ | (simp at h1; done)
    rw [ho] at h2 h4
    rw [hq] at h3 h4
    simp only [addrOf, addrV] at h2 h3 h4
    rw [steady_lookup hl h2, steady_lookup hl h3] at h4
    have hss := step_s (by rw [hq]; rfl) hsj
    rcases hss with e | ⟨id, c, c', e1, e2, e3⟩
    · rcases hab with ⟨rfl, rfl⟩ | ⟨rfl, rfl⟩
      · rw [e]; exact h
      · rw [e] at h; exact h
    · obtain ⟨off, e4⟩ := e3 _ _ _ hq
      rw [evalIn] at e4
      have hne' : (∃ q off, evalIn (puts env0 (((all.map (·.dst)).zip vs).take i)) (.tmp x) = .ptr q off ∧ q ≠ id) ∨ ∃ cs, evalIn (puts env0 (((all.map (·.dst)).zip vs).take i)) (.tmp x) = .rptr cs := by
        simp only [evalIn]
        rw [e4] at h4
        cases hx : lookup (puts env0 (((all.map (·.dst)).zip vs).take i)) x <;> rw [hx] at h4 <;> simp only [rowNe, bne_iff_ne, ne_eq, Bool.false_eq_true, or_false, or_self] at h4
        · rename_i r off'
          refine .inl ⟨r, off', rfl, ?_⟩
          rcases h4 with h | h
          · exact h
          · exact fun e => h e.symm
        · exact .inr ⟨_, rfl⟩
      obtain ⟨b1, b2⟩ := set_back e1 e2
      rcases hab with ⟨rfl, rfl⟩ | ⟨rfl, rfl⟩
      · rw [e2]; exact stepV_same h (fun _ => by rw [ho]; exact same_load hne')
      · rw [b2]; exact stepV_same h (fun _ => by rw [ho]; exact same_load hne')
  have ls_comm : ∀ a b : Op, isLS a b = isLS b a := by
    intro a b
    cases a <;> cases b <;> first | rfl | (simp only [isLS]; done) | (rename_i t x t2 x2 y2; cases x <;> cases x2 <;> rfl) | (rename_i t x y t2 x2; cases x <;> cases x2 <;> rfl) | (rename_i t x t2 x2; cases x <;> cases x2 <;> rfl) | (rename_i t x y t2 x2 y2; cases x <;> cases x2 <;> rfl)
  have free_q : free1 all j q.op = true → False := by
    intro h
    cases hq : q.op <;> rw [hq] at h hwj <;> simp [free1, cls, isW] at h hwj
  have free_o : free1 all i o.op = true → free0 (puts env0 ((all.map (·.dst)).zip vs)) o.op = true → ∀ a b : LH, stepV P Γ true all o (puts env0 (((all.map (·.dst)).zip vs).take i)) a v a → stepV P Γ true all o (puts env0 (((all.map (·.dst)).zip vs).take i)) b v b := by
    intro g1 g2 a b h
    refine stepV_same h fun _ => same_free ?_ _ _
    cases ho : o.op <;> rw [ho] at g1 g2 <;> (try simp only [free1] at g1) <;> first | (cases g1; done) | skip
    case indexAddr t a i' =>
      cases a <;> simp only at g1 <;> first | (cases g1; done) | skip
      rename_i t'
      simp only [free0] at g2
      rw [steady_lookup hl g1] at g2
      cases hx : lookup (puts env0 (((all.map (·.dst)).zip vs).take i)) t' <;> rw [hx] at g2 <;> first | (cases g2; done) | skip
      · exact .inl ⟨_, _, _, rfl, .inr ⟨_, _, by simp only [evalIn]; exact hx⟩⟩
      · exact .inl ⟨_, _, _, rfl, .inl ⟨_, by simp only [evalIn]; exact hx⟩⟩
    case load t a =>
      cases a <;> simp only at g1 <;> first | (cases g1; done) | skip
      rename_i t'
      simp only [free0] at g2
      rw [steady_lookup hl g1] at g2
      cases hx : lookup (puts env0 (((all.map (·.dst)).zip vs).take i)) t' <;> rw [hx] at g2 <;> first | (cases g2; done) | skip
      exact .inr (.inl ⟨_, _, _, rfl, by simp only [evalIn]; exact hx⟩)
    case slice t a lo hi mx =>
      cases a <;> simp only at g1 <;> first | (cases g1; done) | skip
      rename_i t'
      simp only [free0] at g2
      rw [steady_lookup hl g1] at g2
      cases hx : lookup (puts env0 (((all.map (·.dst)).zip vs).take i)) t' <;> rw [hx] at g2 <;> first | (cases g2; done) | skip
      exact .inr (.inr ⟨_, _, _, _, _, _, _, rfl, by simp only [evalIn]; exact hx⟩)
  have ap_q : ∀ {i' : Nat} {o' : Oper}, ap2 all (puts env0 ((all.map (·.dst)).zip vs)) j q i' o' = true → False := by
    intro i' o' h
    unfold ap2 at h
    split at h
    · rename_i h1 _ _
      cases hq : q.op <;> rw [hq] at h1 hwj <;> simp [ptrT, cls, isW] at h1 hwj
    · cases h
  have ap_o : ap2 all (puts env0 ((all.map (·.dst)).zip vs)) i o j q = true → ∀ a b : LH, (a = Ls j ∧ b = Ls (j + 1) ∨ a = Ls (j + 1) ∧ b = Ls j) → stepV P Γ true all o (puts env0 (((all.map (·.dst)).zip vs).take i)) a v a → stepV P Γ true all o (puts env0 (((all.map (·.dst)).zip vs).take i)) b v b := by
    intro g a b hab h
    unfold ap2 at g
    split at g
    case h_2 => cases g
    rename_i t s d ht hs hd
    simp only [Bool.and_eq_true] at g
    obtain ⟨⟨⟨g1, g2⟩, g3⟩, g4⟩ := g
    rw [steady_lookup hl g1] at g4
    split at g4
    case h_2 => cases g4
    rename_i r off hr
    simp only [apart, Bool.and_eq_true] at g4
    obtain ⟨g5, g6⟩ := g4
    have hsv : evalIn (puts env0 ((all.map (·.dst)).zip vs)) s = evalIn (puts env0 (((all.map (·.dst)).zip vs).take j)) s := by
      cases s <;> simp only [opSteady] at g2 <;> first | (cases g2; done) | skip
      · simp only [evalIn]; exact steady_lookup hl g2
      · rfl
    have hdv : lookup (puts env0 ((all.map (·.dst)).zip vs)) d = vs[j] := by
      rw [steady_lookup hl g3]
      have hz : ((all.map (·.dst)).zip vs)[j]? = some (some d, vs[j]) := (zip_get hl).2 ⟨q, hj, hd.symm, by simp [hjl]⟩
      rw [List.take_add_one, hz]
      show lookup (puts env0 (List.take j ((all.map (·.dst)).zip vs) ++ [(some d, vs[j])])) d = _
      rw [puts, List.foldl_append]
      simp [putIn, lookup]
    rw [hsv] at g5
    rw [hdv] at g6
    have key : (Ls (j + 1))[r]? = (Ls j)[r]? := by
      rcases step_k hs hsj with e | ⟨n, sz, y, e1, e2⟩ | ⟨id, off', n, sz, n', sz', y, e0, e1, e2⟩
      · rw [e]
      · rw [e2] at g6
        have hne : (Ls j).length ≠ r := fun x => by simp [x, Nat.beq_refl] at g6
        rw [e1, List.getElem?_append]
        split
        · rfl
        · rw [List.getElem?_singleton, if_neg (by omega), List.getElem?_eq_none (by omega)]
      · rw [e2] at g6
        rw [e0] at g5
        have hne : (Ls j).length ≠ r := fun x => by simp [x, Nat.beq_refl] at g6
        have hne2 : id ≠ r := fun x => by simp [x, Nat.beq_refl] at g5
        rw [e1, List.getElem?_append, List.length_set]
        split
        · rw [List.getElem?_set_ne hne2]
        · rw [List.getElem?_singleton, if_neg (by omega), List.getElem?_eq_none (by omega)]
    have hop : (∃ t a off, o.op = .load t a ∧ evalIn (puts env0 (((all.map (·.dst)).zip vs).take i)) a = .ptr r off) ∨ ∃ t a i' off, o.op = .indexAddr t a i' ∧ evalIn (puts env0 (((all.map (·.dst)).zip vs).take i)) a = .ptr r off := by
      cases ho : o.op <;> rw [ho] at ht <;> (try simp only [ptrT] at ht) <;> first | (cases ht; done) | skip
      case load t' a' =>
        cases a' <;> simp only at ht <;> first | (cases ht; done) | skip
        cases ht
        exact .inl ⟨_, _, off, rfl, by simp only [evalIn]; exact hr⟩
      case indexAddr t' a' i' =>
        cases a' <;> simp only at ht <;> first | (cases ht; done) | skip
        cases ht
        exact .inr ⟨_, _, _, off, rfl, by simp only [evalIn]; exact hr⟩
    rcases hab with ⟨rfl, rfl⟩ | ⟨rfl, rfl⟩
    · exact stepV_same h fun _ => same_row hop key
    · exact stepV_same h fun _ => same_row hop key.symm
  constructor
  · intro hij h
    rw [if_pos hij] at hun
    have hfree : freeP (cls o.op) (cls q.op) = true → stepV P Γ true all o (puts env0 (((all.map (·.dst)).zip vs).take i)) (Ls (j + 1)) v (Ls (j + 1)) := by
      intro hf
      cases hco : cls o.op <;> cases hcq : cls q.op <;> rw [hco, hcq] at hf <;> simp only [freeP, isW, Bool.not_true, Bool.not_false, Bool.and_false, Bool.false_and, Bool.and_true] at hf <;> first | (cases hf; done) | (exact absurd hco hm) | (rw [hcq] at hwj; simp [isW] at hwj; done) | (rw [hco] at hw; simp [isW] at hw; done) | skip
      · rcases step_a hcq hsj with e | ⟨y, e⟩
        · rw [e]; exact h
        · rw [e]; exact stepV_same h (fun _ => same_ext (.inl hco) _ _)
      · rcases step_a hcq hsj with e | ⟨y, e⟩
        · rw [e]; exact h
        · rw [e]; exact stepV_same h (fun _ => same_ext (.inr hco) _ _)
      · rcases step_s hcq hsj with e | ⟨id, c, c', e1, e2, _⟩
        · rw [e]; exact h
        · rw [e2]; exact stepV_same h (fun _ => same_set hco e1)
    rcases lsOk_spec hls hij hi hj with hb | hf | ⟨hs, hn⟩ | ⟨_, hn | hn | hn | hn⟩
    · rw [hun] at hb; cases hb
    · exact hfree hf
    · rcases (anyOk_spec hok).2 i j o q hij hi hj with hb | hf | ⟨h1, h2, h3⟩ | ⟨h1, _⟩
      · rw [hun] at hb; cases hb
      · exact hfree hf
      · exact exempt h1 h2 h3 (.inl hn) _ _ (.inl ⟨rfl, rfl⟩) h
      · rw [hs] at h1; cases h1
    · exact free_o hn.1 hn.2 _ _ h
    · exact (free_q hn.1).elim
    · exact ap_o hn _ _ (.inl ⟨rfl, rfl⟩) h
    · exact (ap_q hn).elim
  · intro hji h
    rw [if_neg (by omega)] at hun
    have hfree : freeP (cls q.op) (cls o.op) = true → stepV P Γ true all o (puts env0 (((all.map (·.dst)).zip vs).take i)) (Ls j) v (Ls j) := by
      intro hf
      cases hco : cls o.op <;> cases hcq : cls q.op <;> rw [hco, hcq] at hf <;> simp only [freeP, isW, Bool.not_true, Bool.not_false, Bool.and_false, Bool.false_and, Bool.and_true] at hf <;> first | (cases hf; done) | (exact absurd hco hm) | (rw [hcq] at hwj; simp [isW] at hwj; done) | (rw [hco] at hw; simp [isW] at hw; done) | skip
      · rcases step_s hcq hsj with e | ⟨id, c, c', e1, e2, _⟩
        · rw [e] at h; exact h
        · obtain ⟨b1, b2⟩ := set_back e1 e2
          rw [b2]; exact stepV_same h (fun _ => same_set hco b1)
    rcases lsOk_spec hls hji hj hi with hb | hf | ⟨hs, hn⟩ | ⟨_, hn | hn | hn | hn⟩
    · rw [hun] at hb; cases hb
    · exact hfree hf
    · rcases (anyOk_spec hok).2 j i q o hji hj hi with hb | hf | ⟨h1, h2, h3⟩ | ⟨h1, _⟩
      · rw [hun] at hb; cases hb
      · exact hfree hf
      · exact exempt (by rw [ls_comm]; exact h1) h3 h2 (.inr hn) _ _ (.inr ⟨rfl, rfl⟩) h
      · rw [hs] at h1; cases h1
    · exact (free_q hn.1).elim
    · exact free_o hn.1 hn.2 _ _ h
    · exact (ap_q hn).elim
    · exact ap_o hn _ _ (.inr ⟨rfl, rfl⟩) h
theorem any_at (hok : anyOk all = true) (hls : lsOk all (puts env0 ((all.map (·.dst)).zip vs)) = true) (hl : vs.length = all.length)
    (hv : ∀ (i : Nat) o v, all[i]? = some o → vs[i]? = some v → stepV P Γ (md o.op) all o (puts env0 (((all.map (·.dst)).zip vs).take i)) (Ls i) v (Ls (i + 1)))
    {S : List Nat} {k : Nat} (hk : k ≤ all.length) (hS : ∀ (j : Nat) q, all[j]? = some q → isW (cls q.op) = true → (j ∈ S ↔ j < k))
    (hcl : ∀ j ∈ S, ∀ m, boundTo all m j = true → m ∈ S)
    {i : Nat} {o : Oper} {v : PV} (hi : all[i]? = some o) (hvi : vs[i]? = some v) (hiS : i ∉ S) (hdep : ∀ m, boundTo all m i = true → m ∈ S) (hw : isW (cls o.op) = false) :
    stepV P Γ true all o (puts env0 (((all.map (·.dst)).zip vs).take i)) (Ls k) v (Ls k) := by
  have hil := (List.getElem?_eq_some_iff.1 hi).1
  have hmd : md o.op = true := by simp only [md, hw, Bool.not_false]
  have h0 := hv i o v hi hvi
  rw [hmd] at h0
  have e0 := stepV_draw h0
  rw [e0] at h0
  have free : ∀ j q, all[j]? = some q → i ≠ j → (if i < j then j < k else k ≤ j) → isW (cls q.op) = true → (if i < j then boundTo all i j = false else boundTo all j i = false) := by
    intro j q hj hne hc hwj
    split
    · rename_i hij
      rw [if_pos hij] at hc
      cases hb : boundTo all i j
      · rfl
      · exact absurd (hcl j ((hS j q hj hwj).2 hc) i hb) hiS
    · rename_i hij
      rw [if_neg hij] at hc
      cases hb : boundTo all j i
      · rfl
      · have := (hS j q hj hwj).1 (hdep j hb)
        omega
  -- a step that the rows do not see
  have stay : ∀ j q, all[j]? = some q → isW (cls q.op) = false → Ls (j + 1) = Ls j := by
    intro j q hj hwj
    have hjl : j < vs.length := by rw [hl]; exact (List.getElem?_eq_some_iff.1 hj).1
    have hs := hv j q vs[j] hj (by simp [hjl])
    have hm : md q.op = true := by simp only [md, hwj, Bool.not_false]
    rw [hm] at hs
    exact stepV_draw hs
  by_cases hki : k ≤ i
  · -- backward
    have down : ∀ d, d ≤ i - k → stepV P Γ true all o (puts env0 (((all.map (·.dst)).zip vs).take i)) (Ls (i - d)) v (Ls (i - d)) := by
      intro d
      induction d with
      | zero => intro _; exact h0
      | succ d ih =>
        intro hd
        have hp := ih (by omega)
        have hj : i - (d + 1) < all.length := by omega
        have hget : all[i - (d + 1)]? = some all[i - (d + 1)] := by simp [hj]
        have e1 : i - d = i - (d + 1) + 1 := by omega
        rw [e1] at hp
        cases hwj : isW (cls all[i - (d + 1)].op)
        · rw [stay _ _ hget hwj] at hp; exact hp
        · exact (any_move hok hls hl hv hi hvi hget hw (by omega) (free _ _ hget (by omega) (by rw [if_neg (by omega)]; omega) hwj)).2 (by omega) hp
    have := down (i - k) (Nat.le_refl _)
    rwa [show i - (i - k) = k by omega] at this
  · -- forward
    have up : ∀ d, i + 1 + d ≤ k → stepV P Γ true all o (puts env0 (((all.map (·.dst)).zip vs).take i)) (Ls (i + 1 + d)) v (Ls (i + 1 + d)) := by
      intro d
      induction d with
      | zero => intro _; rw [Nat.add_zero, e0]; exact h0
      | succ d ih =>
        intro hd
        have hp := ih (by omega)
        have hj : i + 1 + d < all.length := by omega
        have hget : all[i + 1 + d]? = some all[i + 1 + d] := by simp [hj]
        rw [show i + 1 + (d + 1) = i + 1 + d + 1 by omega]
        cases hwj : isW (cls all[i + 1 + d].op)
        · rw [stay _ _ hget hwj]; exact hp
        · exact (any_move hok hls hl hv hi hvi hget hw (by omega) (free _ _ hget (by omega) (by rw [if_pos (by omega)]; omega) hwj)).1 (by omega) hp
    have := up (k - (i + 1)) (by omega)
    rwa [show i + 1 + (k - (i + 1)) = k by omega] at this
theorem needs_closed {S : List Nat} (hcl : ∀ j ∈ S, ∀ q, all[j]? = some q → ∀ e ∈ q.after.toList, Region.binds .any e = true → e.on ∈ S) : ∀ j ∈ S, ∀ m, boundTo all m j = true → m ∈ S :=
  fun j hj m hm => dep_in hcl (bound_dep hm) (fun q hq => hcl j hj q hq)
theorem any_sound (hΓ : GammaOk P Γ) (hok : anyOk all = true) (hls : lsOk all (puts env0 ((all.map (·.dst)).zip vs)) = true) (hl : vs.length = all.length) (hd : ∀ o ∈ all, ∀ d, o.dst = some d → d < N)
    (hv : ∀ (i : Nat) o v, all[i]? = some o → vs[i]? = some v → stepV P Γ (md o.op) all o (puts env0 (((all.map (·.dst)).zip vs).take i)) (Ls i) v (Ls (i + 1)))
    (β0 : List Base) (w0 : World) (hQ : ∀ a' w' β', RepA N B X β' w' (puts env0 ((all.map (·.dst)).zip vs)) a' → RepH X β' w' (Ls all.length) → Grow β0 β' w0 w' → Q .normal a' w') :
    ∀ (fuel : Nat) (S : List Nat) (k : Nat) (listed : Array Bool) (β : List Base) (a : Act) (w : World), (List.range all.length).countP (fun i => decide (i ∉ S)) ≤ fuel → listed.size = all.length → (∀ i, i < all.length → listed[i]? = some (decide (i ∈ S))) → (∀ i ∈ S, i < all.length) →
      (∀ j ∈ S, ∀ q, all[j]? = some q → ∀ e ∈ q.after.toList, Region.binds .any e = true → e.on ∈ S) → k ≤ all.length → (∀ (j : Nat) q, all[j]? = some q → isW (cls q.op) = true → (j ∈ S ↔ j < k)) →
      RepA N B X β w (puts env0 (psOf all vs S)) a → RepH X β w (Ls k) → Grow β0 β w0 w → wpAnyIn (FF rr) 0 P .any all.toArray Q fuel listed a w := by
  obtain ⟨hdr, hpairs⟩ := anyOk_spec hok
  have stay : ∀ j q, all[j]? = some q → isW (cls q.op) = false → Ls (j + 1) = Ls j := by
    intro j q hj hwj
    have hjl : j < vs.length := by rw [hl]; exact (List.getElem?_eq_some_iff.1 hj).1
    have hs := hv j q vs[j] hj (by simp [hjl])
    have hm : md q.op = true := by simp only [md, hwj, Bool.not_false]
    rw [hm] at hs
    exact stepV_draw hs
  -- no operation that writes between two places
  have same : ∀ k d, k + d ≤ all.length → (∀ (j : Nat) q, k ≤ j → j < k + d → all[j]? = some q → isW (cls q.op) = false) → Ls (k + d) = Ls k := by
    intro k d
    induction d with
    | zero => intro _ _; rfl
    | succ d ih =>
      intro h1 h2
      have hj : k + d < all.length := by omega
      rw [show k + (d + 1) = k + d + 1 by omega, stay (k + d) all[k + d] (by simp [hj]) (h2 (k + d) all[k + d] (by omega) (by omega) (by simp [hj]))]
      exact ih (by omega) (fun j q h3 h4 h5 => h2 j q h3 (by omega) h5)
  have fin : ∀ (S : List Nat) (k : Nat) (β : List Base) (a : Act) (w : World), (∀ i, i < all.length → i ∈ S) → k ≤ all.length → (∀ (j : Nat) q, all[j]? = some q → isW (cls q.op) = true → (j ∈ S ↔ j < k)) → RepA N B X β w (puts env0 (psOf all vs S)) a → RepH X β w (Ls k) → Grow β0 β w0 w → Q .normal a w := by
    intro S k β a w hall hk hkS hA hH hg
    have e : Ls all.length = Ls k := by
      have := same k (all.length - k) (by omega) (fun j q h1 h2 h3 => by
        cases hw : isW (cls q.op)
        · rfl
        · have := (hkS j q h3 hw).1 (hall j (List.getElem?_eq_some_iff.1 h3).1); omega)
      rwa [show k + (all.length - k) = all.length by omega] at this
    exact hQ a w β ⟨hA.size, hA.defers, fun t => by rw [draw_end hdr hl hall t]; exact hA.slot t, hA.glob⟩ (by rw [e]; exact hH) hg
  intro fuel
  induction fuel with
  | zero =>
    intro S k listed β a w hc hsz hS hSl hcl hk hkS hA hH hg
    have hall : ∀ i, i < all.length → i ∈ S := by
      intro i hi
      have h0 : (List.range all.length).countP (fun i => decide (i ∉ S)) = 0 := Nat.le_zero.1 hc
      rw [List.countP_eq_zero] at h0
      have := h0 i (by simp [hi])
      simpa using this
    refine ⟨?_, fin S k β a w hall hk hkS hA hH hg⟩
    rw [List.eq_nil_iff_forall_not_mem]
    intro i hi
    obtain ⟨o, ho, hn, _⟩ := (mem_ready' hsz hS hSl).1 hi
    exact hn (hall i (List.getElem?_eq_some_iff.1 ho).1)
  | succ fuel ih =>
    intro S k listed β a w hc hsz hS hSl hcl hk hkS hA hH hg
    refine ⟨fun hr => fin S k β a w (ready_nil hdr hsz hS hSl hr) hk hkS hA hH hg, fun i hi => ?_⟩
    obtain ⟨o, ho, hn, hdep⟩ := (mem_ready' hsz hS hSl).1 hi
    have hil := (List.getElem?_eq_some_iff.1 ho).1
    have hiv : i < vs.length := by omega
    have hvi : vs[i]? = some vs[i] := by simp [hiv]
    have hneeds : ∀ m, boundTo all m i = true → m ∈ S := fun m hm => dep_in hcl (bound_dep hm) (fun q hq => by rw [ho] at hq; cases hq; exact hdep)
    have hagree := fun t ht => draw_agree (env0 := env0) hdr hl hcl ho hn hdep (t := t) ht
    have hps : puts env0 (psOf all vs (S ++ [i])) = putIn (puts env0 (psOf all vs S)) o.dst vs[i] := by
      have hz : ((all.map (·.dst)).zip vs)[i]? = some (o.dst, vs[i]) := (zip_get hl).2 ⟨o, ho, rfl, by simp [hiv]⟩
      simp [puts, psOf, List.filterMap_append, hz]
    obtain ⟨k', hk', hkS', hstep⟩ : ∃ k', k' ≤ all.length ∧ (∀ (j : Nat) q, all[j]? = some q → isW (cls q.op) = true → (j ∈ S ++ [i] ↔ j < k')) ∧ stepV P Γ (md o.op) all o (puts env0 (psOf all vs S)) (Ls k) vs[i] (Ls k') := by
      cases hw : isW (cls o.op) with
      | false =>
        refine ⟨k, hk, fun j q hj hwj => ?_, ?_⟩
        · rw [← hkS j q hj hwj]
          simp only [List.mem_append, List.mem_singleton]
          constructor
          · rintro (h | h)
            · exact h
            · subst h; rw [ho] at hj; cases hj; rw [hw] at hwj; cases hwj
          · exact .inl
        · have hmd : md o.op = true := by simp only [md, hw, Bool.not_false]
          rw [hmd]
          exact stepV_congr hagree (any_at hok hls hl hv hk hkS (needs_closed hcl) ho hvi hn hneeds hw)
      | true =>
        have hki : k ≤ i := by
          refine Decidable.byContradiction fun h => ?_
          exact hn ((hkS i o ho hw).2 (by omega))
        have before : ∀ (j : Nat) q, all[j]? = some q → isW (cls q.op) = true → j < i → j ∈ S := by
          intro j q hj hwj hji
          rcases hpairs j i q o hji hj ho with hb | hf | ⟨h1, _⟩ | ⟨_, h1 | h1 | h1 | h1⟩
          · exact hneeds j hb
          · exfalso
            cases hco : cls o.op <;> cases hcq : cls q.op <;> rw [hco] at hw <;> rw [hcq] at hwj <;> rw [hco, hcq] at hf <;> simp [freeP, isW] at hf hw hwj
          · exfalso
            cases hqo : q.op <;> rw [hqo] at h1 hwj <;> first | (simp [cls, isW] at hwj; done) | (simp [isLS] at h1; done) | skip
            all_goals (cases hoo : o.op <;> rw [hoo] at h1 hw <;> first | (simp [cls, isW] at hw; done) | (simp [isLS] at h1; done) | skip)
          · exfalso
            cases hqo : q.op <;> rw [hqo] at h1 hwj <;> simp [free1, cls, isW] at h1 hwj
          · exfalso
            cases hoo : o.op <;> rw [hoo] at h1 hw <;> simp [free1, cls, isW] at h1 hw
          · exfalso
            unfold ap1 at h1
            split at h1
            · rename_i h2 _ _
              cases hqo : q.op <;> rw [hqo] at h2 hwj <;> simp [ptrT, cls, isW] at h2 hwj
            · cases h1
          · exfalso
            unfold ap1 at h1
            split at h1
            · rename_i h2 _ _
              cases hoo : o.op <;> rw [hoo] at h2 hw <;> simp [ptrT, cls, isW] at h2 hw
            · cases h1
        have e : Ls i = Ls k := by
          have := same k (i - k) (by omega) (fun j q h1 h2 h3 => by
            cases hwj : isW (cls q.op)
            · rfl
            · have := (hkS j q h3 hwj).1 (before j q h3 hwj (by omega)); omega)
          rwa [show k + (i - k) = i by omega] at this
        refine ⟨i + 1, by omega, fun j q hj hwj => ?_, ?_⟩
        · simp only [List.mem_append, List.mem_singleton]
          constructor
          · rintro (h | h)
            · have := (hkS j q hj hwj).1 h; omega
            · omega
          · intro h
            by_cases hji : j = i
            · exact .inr hji
            · exact .inl (before j q hj hwj (by omega))
        · have := hv i o vs[i] ho hvi
          rw [e] at this
          exact stepV_congr hagree this
    have := step_sound (rr := rr) (Q := Q) (K := wpAnyIn (FF rr) 0 P .any all.toArray Q fuel (listed.setIfInBounds i true)) hΓ hstep hA hH (hd o (List.mem_of_getElem? ho)) (fun a1 w1 β1 e1 e2 e3 _ => by
      refine ih (S ++ [i]) k' _ β1 a1 w1 ?_ (by simp [hsz]) (fun k hk => ?_) (fun k hk => ?_) (fun j hj q hq e he hb => ?_) hk' hkS' (by rw [hps]; exact e1) e2 (hg.trans e3)
      · have := countP_lt (p := fun k => decide (k ∉ S)) (q := fun k => decide (k ∉ S ++ [i])) (l := List.range all.length) (fun x _ hx => by simp at hx ⊢; exact hx.1) ⟨i, by simp [hil], by simpa using hn, by simp⟩
        omega
      · by_cases hki : k = i
        · subst hki
          simp [hsz, hk]
        · rw [Array.getElem?_setIfInBounds_ne (Ne.symm hki), hS k hk]
          simp [hki]
      · rcases List.mem_append.1 hk with h | h
        · exact hSl k h
        · simp at h; omega
      · rcases List.mem_append.1 hj with h | h
        · exact List.mem_append_left _ (hcl j h q hq e he hb)
        · simp at h; subst h
          rw [ho] at hq; cases hq
          exact List.mem_append_left _ (hdep e he hb))
    unfold wpOpIn
    have hget : all.toArray[i]? = some o := by simpa using ho
    rw [hget]
    simp only
    split
    · rename_i hw; rw [if_pos hw] at this; exact this
    · rename_i hw; rw [if_neg hw] at this; exact ⟨fun f _ => FF_fn rr f, this⟩
theorem region_any (hΓ : GammaOk P Γ) (hm : P.follows .mixedOrders = true) {id : Nat} {env env' : Env} {L' : LH} {a : Act} (hok : anyOk all = true) (hd : ∀ o ∈ all, ∀ d, o.dst = some d → d < N)
    (h : ARun P Γ all all env L env' L') (hls : lsOk all env' = true) (hA : RepA N B X β w env a) (hH : RepH X β w L)
    (hQ : ∀ a' w' β', RepA N B X β' w' env' a' → RepH X β' w' L' → Grow β β' w w' → Q .normal a' w') : (Code.region id all.toArray true).wpIn (FF rr) 0 P Q a w := by
  obtain ⟨vs, Ls, h2, rfl, h3, rfl, h4⟩ := arun_vals h
  subst h3
  refine wpIn_region_any hm ?_
  have hH' : RepH X β { w with drawn := w.drawn + 1 } (Ls 0) := hH.same grow_drew_id (fun _ _ => rfl)
  have := any_sound (rr := rr) (Q := Q) (N := N) (X := X) hΓ hok hls h2 hd h4 β w hQ all.length [] 0 (Array.replicate all.length false) β a { w with drawn := w.drawn + 1 }
    (Nat.le_trans List.countP_le_length (by simp)) (by simp) (fun i hi => by simp [hi]) (by simp) (by simp) (Nat.zero_le _) (by simp) (hA.grow grow_drew_id) hH' grow_drew_id
  simpa using this
end any
end Go.Ab
namespace Go.Ab
open Go Go.RowKit
set_option linter.unusedVariables false
set_option linter.unusedSimpArgs false
section
variable {P : Program} {rr : Option Nat} {Q : Exit → Act → World → Prop} {all : List Oper} {σ : Nat → Nat} {x y : Nat}
inductive LExt (ops : Array Oper) : Nat → Array Bool → List Nat → Prop
  | zero {listed} : LExt ops 0 listed []
  | stop {fuel listed} (h : Region.ready .any ops listed = []) : LExt ops (fuel + 1) listed []
  | cons {fuel listed i π} (h : i ∈ Region.ready .any ops listed) (k : LExt ops fuel (listed.setIfInBounds i true) π) : LExt ops (fuel + 1) listed (i :: π)
theorem any_lext {ops : Array Oper} {fuel : Nat} {listed : Array Bool} {π : List Nat} (h : LExt ops fuel listed π) : ∀ {a : Act} {w : World}, wpAnyIn (FF rr) 0 P .any ops Q fuel listed a w → wpOpsIn (FF rr) 0 P ops Q π a w := by
  induction h with
  | zero => intro a w h; exact h.2
  | stop hr => intro a w h; exact h.1 hr
  | cons hi k ih =>
    intro a w h
    rw [wpOpsIn_cons]
    exact wpOpIn_mono (fun a w h => ih h) (h.2 _ hi)
theorem lin_lext {ops : Array Oper} : ∀ (fuel t : Nat) (listed : Array Bool), LExt ops fuel listed (Region.linearise.go .any ops fuel t listed [])
  | 0, t, listed => by simp only [Region.linearise.go]; exact .zero
  | fuel + 1, t, listed => by
    simp only [Region.linearise.go]
    change LExt ops (fuel + 1) listed (match (Region.ready .any ops listed)[t % (Region.ready .any ops listed).length]? with
      | some i => Region.linearise.go .any ops fuel (t / (Region.ready .any ops listed).length) (listed.setIfInBounds i true) [i]
      | none => [].reverse)
    cases hi : (Region.ready .any ops listed)[t % (Region.ready .any ops listed).length]? with
    | none =>
      have hnil : Region.ready .any ops listed = [] := by
        cases hr : Region.ready .any ops listed with
        | nil => rfl
        | cons x xs =>
          rw [hr] at hi
          have hlt : t % (x :: xs).length < (x :: xs).length := Nat.mod_lt _ (by simp)
          simp at hi
          simp at hlt
          omega
      exact .stop hnil
    | some i =>
      simp only []
      rw [linearise_go_acc, List.reverse_singleton, List.singleton_append]
      exact .cons (List.mem_of_getElem? hi) (lin_lext fuel _ _)
def verOp (σ : Nat → Nat) (x y : Nat) (o : Oper) (i : Nat) : Oper :=
  { o with after := (o.after.toList.map (fun e => Edge.mk (σ e.on) e.ground) ++ (if i = y then [Edge.mk (σ x) .data] else [])).toArray, guard := o.guard.map fun g => (σ g.1, g.2) }
def ver (σ : Nat → Nat) (x y : Nat) (all : List Oper) : List Oper := (List.range all.length).map fun i => verOp σ x y (all.getD (σ i) default) (σ i)
theorem len_ver : (ver σ x y all).length = all.length := by simp [ver]
theorem ver_get (hinv : ∀ i, σ (σ i) = i) (hlt : ∀ i, i < all.length → σ i < all.length) {i : Nat} {o : Oper} (h : all[i]? = some o) : (ver σ x y all)[σ i]? = some (verOp σ x y o i) := by
  have hi := (List.getElem?_eq_some_iff.1 h).1
  simp only [ver, List.getElem?_map, List.getElem?_range (hlt i hi), Option.map_some, hinv, List.getD_eq_getElem?_getD, h, Option.getD_some]
theorem ver_none (hinv : ∀ i, σ (σ i) = i) (hlt : ∀ i, i < all.length → σ i < all.length) {i : Nat} (h : all[i]? = none) : (ver σ x y all)[σ i]? = none := by
  rw [List.getElem?_eq_none_iff] at h ⊢
  rw [len_ver]
  refine Decidable.byContradiction fun hc => ?_
  have := hlt (σ i) (by omega)
  rw [hinv] at this
  omega
def Rel (σ : Nat → Nat) (l l' : Array Bool) : Prop := ∀ i, l'[σ i]? = l[i]?
theorem Rel.set (hinv : ∀ i, σ (σ i) = i) {l l' : Array Bool} (h : Rel σ l l') (i : Nat) : Rel σ (l.setIfInBounds i true) (l'.setIfInBounds (σ i) true) := by
  intro j
  rw [Array.getElem?_setIfInBounds, Array.getElem?_setIfInBounds]
  have hinj : σ i = σ j ↔ i = j := ⟨fun e => by rw [← hinv i, e, hinv], fun e => by rw [e]⟩
  have hsz : σ i < l'.size ↔ i < l.size := by
    have := h i
    constructor
    · intro hl
      rw [Array.getElem?_eq_getElem hl] at this
      refine Decidable.byContradiction fun hc => ?_
      rw [Array.getElem?_eq_none (by omega)] at this
      cases this
    · intro hl
      rw [Array.getElem?_eq_getElem hl] at this
      refine Decidable.byContradiction fun hc => ?_
      rw [Array.getElem?_eq_none (by omega)] at this
      cases this
  by_cases e : i = j
  · subst e
    simp only [if_true, hsz]
  · rw [if_neg e, if_neg (fun h => e (hinj.1 h)), h j]
theorem ready_iff {ops : List Oper} {listed : Array Bool} {i : Nat} : i ∈ Region.ready .any ops.toArray listed ↔
    ∃ o, ops[i]? = some o ∧ listed[i]? = some false ∧ ∀ e ∈ o.after.toList, Region.binds .any e = true → listed[e.on]? = some true := by
  have g1 : ∀ k : Nat, listed.getD k true = false ↔ listed[k]? = some false := by
    intro k
    rw [Array.getD_eq_getD_getElem?]
    cases listed[k]? with
    | none => simp
    | some b => simp
  have g2 : ∀ k : Nat, listed.getD k false = true ↔ listed[k]? = some true := by
    intro k
    rw [Array.getD_eq_getD_getElem?]
    cases listed[k]? with
    | none => simp
    | some b => simp
  simp only [Region.ready, List.mem_filter, List.mem_range, List.size_toArray, Bool.and_eq_true, Bool.not_eq_true', List.getElem?_toArray]
  constructor
  · rintro ⟨hlt, h1, h2⟩
    have hget := List.getElem?_eq_getElem hlt
    rw [hget] at h2
    simp only [Option.map_some, Option.getD_some] at h2
    refine ⟨ops[i], hget, (g1 i).1 h1, fun e he hb => ?_⟩
    have := (Array.all_eq_true_iff_forall_mem.1 h2) e (by simpa using he)
    rw [hb] at this
    simp only [Bool.not_true, Bool.false_or] at this
    exact (g2 _).1 this
  · rintro ⟨o, ho, h1, h2⟩
    refine ⟨(List.getElem?_eq_some_iff.1 ho).1, (g1 i).2 h1, ?_⟩
    rw [ho]
    simp only [Option.map_some, Option.getD_some]
    refine Array.all_eq_true_iff_forall_mem.2 fun e he => ?_
    cases hb : Region.binds .any e
    · rfl
    · simp only [Bool.not_true, Bool.false_or]
      exact (g2 _).2 (h2 e (by simpa using he) hb)
theorem ready_ver (hinv : ∀ i, σ (σ i) = i) (hlt : ∀ i, i < all.length → σ i < all.length) {l l' : Array Bool} (hr : Rel σ l l') {i : Nat} (h : i ∈ Region.ready .any all.toArray l) (hx : i ≠ y ∨ l[x]? = some true) :
    σ i ∈ Region.ready .any (ver σ x y all).toArray l' := by
  obtain ⟨o, ho, h1, h2⟩ := ready_iff.1 h
  refine ready_iff.2 ⟨_, ver_get hinv hlt ho, by rw [hr i]; exact h1, fun e he hb => ?_⟩
  simp only [verOp, List.mem_append, List.mem_map] at he
  rcases he with ⟨e0, he0, rfl⟩ | he
  · simp only
    rw [hr e0.on]
    exact h2 e0 he0 (by simpa [Region.binds] using hb)
  · split at he
    · rename_i hiy
      rcases hx with hx | hx
      · exact absurd hiy hx
      · simp only [List.mem_singleton] at he
        subst he
        simp only
        rw [hr x]; exact hx
    · simp at he
theorem ready_back (hinv : ∀ i, σ (σ i) = i) (hlt : ∀ i, i < all.length → σ i < all.length) {l l' : Array Bool} (hr : Rel σ l l') {i : Nat} (h : σ i ∈ Region.ready .any (ver σ x y all).toArray l') :
    i ∈ Region.ready .any all.toArray l := by
  obtain ⟨o', ho', h1, h2⟩ := ready_iff.1 h
  cases ho : all[i]? with
  | none => rw [ver_none hinv hlt ho] at ho'; cases ho'
  | some o =>
    rw [ver_get hinv hlt ho] at ho'
    cases ho'
    refine ready_iff.2 ⟨o, ho, by rw [← hr i]; exact h1, fun e he hb => ?_⟩
    have := h2 (Edge.mk (σ e.on) e.ground) (by simp only [verOp, List.mem_append, List.mem_map]; exact .inl ⟨e, he, rfl⟩) (by simpa [Region.binds] using hb)
    simp only at this
    rw [← hr e.on]; exact this
theorem ready_nil_ver (hinv : ∀ i, σ (σ i) = i) (hlt : ∀ i, i < all.length → σ i < all.length) {l l' : Array Bool} (hr : Rel σ l l') (h : Region.ready .any all.toArray l = []) : Region.ready .any (ver σ x y all).toArray l' = [] := by
  rw [List.eq_nil_iff_forall_not_mem]
  intro j hj
  have : σ j ∈ Region.ready .any all.toArray l := ready_back (x := x) (y := y) hinv hlt hr (by rw [hinv]; exact hj)
  rw [h] at this
  cases this
theorem lext_ver (hinv : ∀ i, σ (σ i) = i) (hlt : ∀ i, i < all.length → σ i < all.length) {fuel : Nat} {l : Array Bool} {π : List Nat} (h : LExt all.toArray fuel l π) : ∀ {l' : Array Bool}, Rel σ l l' → l[x]? = some true → LExt (ver σ x y all).toArray fuel l' (π.map σ) := by
  induction h with
  | zero => intro l' _ _; exact .zero
  | stop hr0 => intro l' hr _; exact .stop (ready_nil_ver hinv hlt hr hr0)
  | @cons fuel listed i π hi k ih =>
    intro l' hr hx
    refine .cons (ready_ver hinv hlt hr hi (.inr hx)) (ih (hr.set hinv i) ?_)
    rw [Array.getElem?_setIfInBounds]
    have := Array.getElem?_eq_some_iff.1 hx
    split
    · rename_i e; subst e; simp [this.1]
    · exact hx
theorem lext_split {σ2 : Nat → Nat} {p q : Nat} (h1 : ∀ i, σ (σ i) = i) (h2 : ∀ i, i < all.length → σ i < all.length) (g1 : ∀ i, σ2 (σ2 i) = i) (g2 : ∀ i, i < all.length → σ2 i < all.length) (hne : p ≠ q)
    {fuel : Nat} {l : Array Bool} {π : List Nat} (h : LExt all.toArray fuel l π) : ∀ {l1 l2 : Array Bool}, Rel σ l l1 → Rel σ2 l l2 →
    LExt (ver σ p q all).toArray fuel l1 (π.map σ) ∨ LExt (ver σ2 q p all).toArray fuel l2 (π.map σ2) := by
  induction h with
  | zero => intro l1 l2 _ _; exact .inl .zero
  | stop hr0 => intro l1 l2 r1 _; exact .inl (.stop (ready_nil_ver h1 h2 r1 hr0))
  | @cons fuel listed i π hi k ih =>
    intro l1 l2 r1 r2
    have hin : listed[i]? = some false := by
      obtain ⟨o, _, h, _⟩ := ready_iff.1 hi
      exact h
    have hlt := (Array.getElem?_eq_some_iff.1 hin).1
    have hset : (listed.setIfInBounds i true)[i]? = some true := by
      rw [Array.getElem?_setIfInBounds, if_pos rfl, if_pos hlt]
    by_cases e1 : i = p
    · subst e1
      exact .inl (.cons (ready_ver h1 h2 r1 hi (.inl hne)) (lext_ver h1 h2 k (r1.set h1 i) hset))
    · by_cases e2 : i = q
      · subst e2
        exact .inr (.cons (ready_ver g1 g2 r2 hi (.inl (Ne.symm hne))) (lext_ver g1 g2 k (r2.set g1 i) hset))
      · rcases ih (r1.set h1 i) (r2.set g1 i) with h | h
        · exact .inl (.cons (ready_ver h1 h2 r1 hi (.inl e2)) h)
        · exact .inr (.cons (ready_ver g1 g2 r2 hi (.inl e1)) h)
theorem yielded_ver (hinv : ∀ i, σ (σ i) = i) (hlt : ∀ i, i < all.length → σ i < all.length) (tmps : Array Value) (j : Nat) : yielded (ver σ x y all).toArray tmps (σ j) = yielded all.toArray tmps j := by
  unfold yielded
  simp only [List.getElem?_toArray]
  cases h : all[j]? with
  | none => rw [ver_none hinv hlt h]
  | some o => rw [ver_get hinv hlt h]; rfl
theorem wpOp_ver (hinv : ∀ i, σ (σ i) = i) (hlt : ∀ i, i < all.length → σ i < all.length) {i : Nat} {K : Act → World → Prop} {a : Act} {w : World} (h : wpOpIn (FF rr) 0 P (ver σ x y all).toArray Q (σ i) K a w) : wpOpIn (FF rr) 0 P all.toArray Q i K a w := by
  unfold wpOpIn at *
  simp only [List.getElem?_toArray] at *
  cases ho : all[i]? with
  | none => rw [ver_none hinv hlt ho] at h; exact h
  | some o =>
    rw [ver_get hinv hlt ho] at h
    simp only at h ⊢
    have hw : Region.wanted (verOp σ x y o i) (yielded (ver σ x y all).toArray a.tmps) = Region.wanted o (yielded all.toArray a.tmps) := by
      unfold Region.wanted
      simp only [verOp]
      cases o.guard with
      | none => rfl
      | some g => simp only [Option.map_some, yielded_ver hinv hlt]
    rw [hw] at h
    exact h
theorem wpOps_ver (hinv : ∀ i, σ (σ i) = i) (hlt : ∀ i, i < all.length → σ i < all.length) : ∀ {π : List Nat} {a : Act} {w : World}, wpOpsIn (FF rr) 0 P (ver σ x y all).toArray Q (π.map σ) a w → wpOpsIn (FF rr) 0 P all.toArray Q π a w
  | [], a, w, h => h
  | i :: π, a, w, h => by
    rw [List.map_cons, wpOpsIn_cons] at h
    rw [wpOpsIn_cons]
    exact wpOp_ver hinv hlt (wpOpIn_mono (fun a w h => wpOps_ver hinv hlt h) h)
def swp (p q i : Nat) : Nat := if i = p then q else if i = q then p else i
theorem swp_inv (p q i : Nat) : swp p q (swp p q i) = i := by
  unfold swp
  repeat' split
  all_goals omega
theorem swp_lt {p q n : Nat} (hp : p < n) (hq : q < n) (i : Nat) (h : i < n) : swp p q i < n := by
  unfold swp
  repeat' split
  all_goals omega
def ver1 (p q : Nat) (all : List Oper) : List Oper := ver (fun i => i) p q all
def ver2 (p q : Nat) (all : List Oper) : List Oper := ver (swp p q) q p all
theorem region_two {id : Nat} {a : Act} {w : World} {p q : Nat} (hm : P.follows .mixedOrders = true) (hne : p ≠ q) (hp : p < all.length) (hq : q < all.length)
    (h1 : wpAnyIn (FF rr) 0 P .any (ver1 p q all).toArray Q all.length (Array.replicate all.length false) a { w with drawn := w.drawn + 1 })
    (h2 : wpAnyIn (FF rr) 0 P .any (ver2 p q all).toArray Q all.length (Array.replicate all.length false) a { w with drawn := w.drawn + 1 }) : (Code.region id all.toArray true).wpIn (FF rr) 0 P Q a w := by
  refine wpIn_region_draw fun t => ?_
  simp only [Region.schedule, hm, Bool.true_or, if_true]
  have hl : LExt all.toArray all.length (Array.replicate all.length false) (Region.linearise .any all.toArray t) := by
    have := lin_lext (ops := all.toArray) all.length t (Array.replicate all.length false)
    simpa [Region.linearise] using this
  have r1 : Rel (fun i => i) (Array.replicate all.length false) (Array.replicate all.length false) := fun i => rfl
  have r2 : Rel (swp p q) (Array.replicate all.length false) (Array.replicate all.length false) := by
    intro i
    simp only [Array.getElem?_replicate]
    have hiff : swp p q i < all.length ↔ i < all.length := ⟨fun h => by have := swp_lt hp hq _ h; rwa [swp_inv] at this, swp_lt hp hq i⟩
    simp only [hiff]
  rcases lext_split (p := p) (q := q) (fun _ => rfl) (fun _ h => h) (swp_inv p q) (swp_lt hp hq) hne hl r1 r2 with h | h
  · exact wpOps_ver (x := p) (y := q) (fun _ => rfl) (fun _ h => h) (any_lext h h1)
  · exact wpOps_ver (x := q) (y := p) (swp_inv p q) (swp_lt hp hq) (any_lext h h2)
end
section
variable {P : Program} {Γ : Con} {X : Nat → Prop} {N B : Nat} {rr : Option Nat} {Q : Exit → Act → World → Prop} {all : List Oper} {β : List Base} {w : World} {L : LH}
theorem mem_ver {σ : Nat → Nat} {x y : Nat} (hlt : ∀ i, i < all.length → σ i < all.length) (hd : ∀ o ∈ all, ∀ d, o.dst = some d → d < N) : ∀ o ∈ ver σ x y all, ∀ d, o.dst = some d → d < N := by
  intro o ho d hod
  simp only [ver, List.mem_map, List.mem_range] at ho
  obtain ⟨i, hi, rfl⟩ := ho
  have hs := hlt i hi
  refine hd (all.getD (σ i) default) ?_ d hod
  rw [List.getD_eq_getElem?_getD, List.getElem?_eq_getElem hs]
  simp
theorem any_start (hΓ : GammaOk P Γ) {env env' : Env} {L' : LH} {a : Act} (hok : anyOk all = true) (hd : ∀ o ∈ all, ∀ d, o.dst = some d → d < N)
    (h : ARun P Γ all all env L env' L') (hls : lsOk all env' = true) (hA : RepA N B X β w env a) (hH : RepH X β w L)
    (hQ : ∀ a' w' β', RepA N B X β' w' env' a' → RepH X β' w' L' → Grow β β' w w' → Q .normal a' w') : wpAnyIn (FF rr) 0 P .any all.toArray Q all.length (Array.replicate all.length false) a { w with drawn := w.drawn + 1 } := by
  obtain ⟨vs, Ls, h2, rfl, h3, rfl, h4⟩ := arun_vals h
  subst h3
  have hH' : RepH X β { w with drawn := w.drawn + 1 } (Ls 0) := hH.same grow_drew_id (fun _ _ => rfl)
  exact any_sound (rr := rr) (Q := Q) (N := N) (X := X) hΓ hok hls h2 hd h4 β w hQ all.length [] 0 (Array.replicate all.length false) β a { w with drawn := w.drawn + 1 }
    (Nat.le_trans List.countP_le_length (by simp)) (by simp) (fun i hi => by simp [hi]) (by simp) (by simp) (Nat.zero_le _) (by simp) (hA.grow grow_drew_id) hH' grow_drew_id
theorem region_two_any (hΓ : GammaOk P Γ) (hm : P.follows .mixedOrders = true) {id : Nat} {env env1 env2 : Env} {L1 L2 : LH} {a : Act} {p q : Nat} (hne : p ≠ q) (hp : p < all.length) (hq : q < all.length) (hd : ∀ o ∈ all, ∀ d, o.dst = some d → d < N)
    (o1 : anyOk (ver1 p q all) = true) (h1 : ARun P Γ (ver1 p q all) (ver1 p q all) env L env1 L1) (s1 : lsOk (ver1 p q all) env1 = true)
    (o2 : anyOk (ver2 p q all) = true) (h2 : ARun P Γ (ver2 p q all) (ver2 p q all) env L env2 L2) (s2 : lsOk (ver2 p q all) env2 = true)
    (hA : RepA N B X β w env a) (hH : RepH X β w L)
    (hQ1 : ∀ a' w' β', RepA N B X β' w' env1 a' → RepH X β' w' L1 → Grow β β' w w' → Q .normal a' w')
    (hQ2 : ∀ a' w' β', RepA N B X β' w' env2 a' → RepH X β' w' L2 → Grow β β' w w' → Q .normal a' w') : (Code.region id all.toArray true).wpIn (FF rr) 0 P Q a w := by
  have k1 := any_start (rr := rr) hΓ o1 (mem_ver (fun _ h => h) hd) h1 s1 hA hH hQ1
  have k2 := any_start (rr := rr) hΓ o2 (mem_ver (swp_lt hp hq) hd) h2 s2 hA hH hQ2
  have e1 : (ver1 p q all).length = all.length := len_ver
  have e2 : (ver2 p q all).length = all.length := len_ver
  rw [e1] at k1
  rw [e2] at k2
  exact region_two hm hne hp hq k1 k2
end
end Go.Ab
