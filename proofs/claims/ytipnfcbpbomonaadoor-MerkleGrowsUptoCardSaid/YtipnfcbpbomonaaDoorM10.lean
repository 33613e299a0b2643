import Derived.Test.YtipnfcbpbomonaaDoorM9
namespace Go.Ab
open Go Go.RowKit
set_option linter.unusedVariables false
set_option linter.unusedSimpArgs false
variable {P : Program} {Γ : Con} {L : LH} {env : Env}
theorem dro_closed : ∀ (n : Nat) (p : PV), closed p = true → dro L n p = p ∧ droOk L n p
  | 0, p, _ => by cases p <;> simp_all [dro, droOk, closed]
  | n + 1, .agg cs, h => by
    have hc : ∀ q ∈ cs, closed q = true := closedL_iff.1 (by simpa [closed] using h)
    simp only [dro, droOk]
    refine ⟨?_, fun q hq => (dro_closed n q (hc q hq)).2⟩
    rw [List.map_congr_left (g := id) (fun q hq => (dro_closed n q (hc q hq)).1), List.map_id]
  | n + 1, .any, h => by simp [dro, droOk]
  | n + 1, .lit _, h => by simp [dro, droOk]
  | n + 1, .ro _ _, h => by simp [dro, droOk]
  | n + 1, .own _ _ _ _, h => by simp [closed] at h
  | n + 1, .ptr _ _, h => by simp [closed] at h
  | n + 1, .rptr _, h => by simp [dro, droOk]
  | n + 1, .tup _, h => by simp [dro, droOk]
  | n + 1, .fn _ _ _, h => by simp [dro, droOk]
  | n + 1, .new _ _ _, h => by simp [closed] at h
theorem map_dro {n : Nat} {cs : List PV} (h : closedL cs = true) : cs.map (dro L n) = cs ∧ ∀ q ∈ cs, droOk L n q := by
  have hc := closedL_iff.1 h
  refine ⟨?_, fun q hq => (dro_closed n q (hc q hq)).2⟩
  rw [List.map_congr_left (g := id) (fun q hq => (dro_closed n q (hc q hq)).1), List.map_id]
def borV (L : LH) (p q : PV) : Bool × List Prop :=
  match p with
  | .own id off n sz => match q with
    | .ro n' cs => match L[id]? with
      | some (.cells row) => (true, [off + n * sz ≤ row.length, n = n', (row.drop off).take (n * sz) = cs, closedL cs = true])
      | _ => (false, [])
    | _ => (false, [])
  | .ptr id off => match q with
    | .rptr cs => match L[id]? with
      | some (.cells row) => (true, [row.drop off = cs, closedL cs = true])
      | _ => (false, [])
    | _ => (false, [])
  | p => (true, [p = q, closed q = true])
theorem borV_ok {p q : PV} (h : (borV L p q).1 = true) (hp : ∀ a ∈ (borV L p q).2, a) : borrow L p = q ∧ borrowOk L p := by
  unfold borV at h hp
  split at h
  · rename_i id off n sz
    split at h
    · rename_i n' cs
      split at h
      · rename_i row hL
        simp only [hL] at hp
        have h1 := hp (off + n * sz ≤ row.length) (by simp)
        have h2 := hp (n = n') (by simp)
        have h3 := hp ((row.drop off).take (n * sz) = cs) (by simp)
        have h4 := hp (closedL cs = true) (by simp)
        have hs : slc L (.own id off n sz) = (off + n * sz ≤ row.length, n, (row.drop off).take (n * sz)) := by simp only [slc, hL]
        have hd : dro L 4 (.own id off n sz) = .ro n' cs := by
          simp only [dro, hs]
          rw [h3, (map_dro h4).1, h2]
        refine ⟨by simp only [borrow, closed, cond_false]; exact hd, .inr ⟨?_, by rw [hd]; simpa [closed] using h4⟩⟩
        simp only [droOk, hs]
        exact ⟨h1, by rw [h3]; exact (map_dro h4).2⟩
      · cases h
    · cases h
  · rename_i id off
    split at h
    · rename_i cs
      split at h
      · rename_i row hL
        simp only [hL] at hp
        have h1 := hp (row.drop off = cs) (by simp)
        have h2 := hp (closedL cs = true) (by simp)
        have hd : dro L 4 (.ptr id off) = .rptr cs := by simp only [dro, hL]; rw [h1]
        exact ⟨by simp only [borrow, closed, cond_false]; exact hd, .inr ⟨by simp [droOk], by rw [hd]; simpa [closed] using h2⟩⟩
      · cases h
    · cases h
  · have h1 := hp (p = q) (by simp)
    have h2 := hp (closed q = true) (by simp)
    subst h1
    exact ⟨by simp only [borrow, h2, cond_true], .inl h2⟩
def borL (L : LH) : List PV → List PV → Bool × List Prop
  | [], [] => (true, [])
  | p :: ps, q :: qs => both (borV L p q) (borL L ps qs)
  | _, _ => (false, [])
theorem borL_ok : ∀ {ps qs : List PV}, (borL L ps qs).1 = true → (∀ a ∈ (borL L ps qs).2, a) → ps.map (borrow L) = qs ∧ ∀ p ∈ ps, borrowOk L p
  | [], [], _, _ => ⟨rfl, by simp⟩
  | [], _ :: _, h, _ => by cases h
  | _ :: _, [], h, _ => by cases h
  | p :: ps, q :: qs, h, hp => by
    obtain ⟨h1, h2⟩ := both_ok h hp
    obtain ⟨e1, e2⟩ := borV_ok h1.1 h1.2
    obtain ⟨e3, e4⟩ := borL_ok h2.1 h2.2
    refine ⟨by rw [List.map_cons, e1, e3], fun x hx => ?_⟩
    rcases List.mem_cons.1 hx with rfl | hx
    · exact e2
    · exact e4 x hx
def xAd (dr : Bool) (r : PV) (L : LH) (k : PV → LH → Prop) : Prop := fV (adopt dr r L).1 fun v => fL (adopt dr r L).2 fun L' => k v L'
theorem xAd_eq {dr : Bool} {r : PV} {k : PV → LH → Prop} : xAd dr r L k = k (adopt dr r L).1 (adopt dr r L).2 := by rw [xAd, fV_eq, fL_eq]
def xCall (P : Program) (dr : Bool) (g : FuncId) (args : List PV) (s : Scr) (L : LH) (k : Scr → PV → LH → Prop) : Prop :=
  match strip s with
  | .c r s => match closedL args with
    | true => CallR P g args r ∧ xAd dr r L (k s)
    | false => False
  | .k qs r s => match (borL L args qs).1 with
    | true => conj (borL L args qs).2 ((closedL args = true ∨ flat r = true) ∧ CallR P g qs r ∧ xAd dr r L (k s))
    | false => False
  | .x r s => CallE P g args r ∧ k s r L
  | .t r L' s => match dr with
    | false => CallS P g args L r L' ∧ fL L' fun L' => k s r L'
    | true => False
  | _ => False
theorem map_borrow {ps : List PV} (h : closedL ps = true) : ps.map (borrow L) = ps ∧ ∀ p ∈ ps, borrowOk L p := by
  have hc := closedL_iff.1 h
  refine ⟨?_, fun p hp => .inl (hc p hp)⟩
  rw [List.map_congr_left (g := id) (fun q hq => by simp only [borrow, hc q hq, cond_true, id]), List.map_id]
theorem xCall_ok {dr : Bool} {g : FuncId} {args : List PV} {s : Scr} {k : Scr → PV → LH → Prop} (h : xCall P dr g args s L k) :
    ∃ Γ' s' v L', GammaOk P Γ' ∧ ((callF Γ' dr g args L).pre ∧ v = (callF Γ' dr g args L).val ∧ L' = (callF Γ' dr g args L).L) ∧ k s' v L' := by
  unfold xCall at h
  split at h
  · rename_i r s _
    split at h
    · rename_i hc
      obtain ⟨h1, h2⟩ := h
      rw [xAd_eq] at h2
      refine ⟨oneCon g (.pure fun a => (a = args, r)), s, _, _, oneCon_ok h1, ?_, h2⟩
      simp only [callF, oneCon_tab, pureF, (map_borrow (L := L) hc).1]
      exact ⟨⟨trivial, (map_borrow hc).2, .inl hc⟩, trivial, trivial⟩
    · exact h.elim
  · rename_i qs r s _
    split at h
    · rename_i hb
      obtain ⟨h1, h2, h3, h4⟩ := conj_eq h
      rw [xAd_eq] at h4
      obtain ⟨e1, e2⟩ := borL_ok hb h1
      refine ⟨oneCon g (.pure fun a => (a = qs, r)), s, _, _, oneCon_ok h3, ?_, h4⟩
      simp only [callF, oneCon_tab, pureF, e1]
      exact ⟨⟨trivial, e2, h2⟩, trivial, trivial⟩
    · exact h.elim
  · rename_i r s _
    refine ⟨oneCon g (.ext fun a => (a = args, r)), s, r, L, oneCon_ok h.1, ?_, h.2⟩
    simp only [callF, oneCon_tab]
    exact ⟨trivial, trivial, trivial⟩
  · rename_i r L' s _
    split at h
    · rw [fL_eq] at h
      refine ⟨oneCon g (.st fun a K => ⟨a = args ∧ K = L, r, L'⟩), s, r, L', oneCon_ok h.1, ?_, h.2⟩
      simp only [callF, oneCon_tab, cond_false]
      exact ⟨⟨trivial, trivial⟩, trivial, trivial⟩
    · exact h.elim
  · exact h.elim
def xBox (v : PV) (L : LH) (k : PV → LH → Prop) : Prop :=
  match v with
  | .agg cs => fN L.length fun n => fL (L ++ [.cells cs]) fun L' => k (.ptr n 0) L'
  | v => fN L.length fun n => fL (L ++ [.cells v.cells]) fun L' => k (.ptr n 0) L'
theorem xBox_eq {v : PV} {k : PV → LH → Prop} : xBox v L k = k (.ptr L.length 0) (L ++ [.cells v.cells]) := by
  unfold xBox
  split <;> rw [fN_eq, fL_eq] <;> rfl
def xStore (P : Program) (t : TypeId) (a v : PV) (L : LH) (k : LH → Prop) : Prop :=
  match storeB P false t a v L with
  | true => match a with
    | .ptr id off => match L[id]? with
      | some (.cells cs) => match v with
        | .agg vs => fL (L.set id (.cells (splice cs off vs))) k
        | v => fL (L.set id (.cells (splice cs off v.cells))) k
      | _ => False
    | _ => False
  | false => False
theorem xStore_ok {t : TypeId} {a v : PV} {k : LH → Prop} (h : xStore P t a v L k) : (storeF P false t a v L).pre ∧ (storeF P false t a v L).val = .lit undef ∧ k (storeF P false t a v L).L := by
  unfold xStore at h
  split at h
  · rename_i hb
    have hp := storeB_pre hb
    split at h
    · split at h
      · rename_i id off cs hL
        refine ⟨hp, ?_⟩
        unfold storeB at hb
        unfold storeF
        cases hT : tyOf P t with
        | none => rw [hT] at hb; cases hb
        | some T =>
          simp only [hL]
          split at h
          · rw [fL_eq] at h; exact ⟨trivial, h⟩
          · rw [fL_eq] at h; exact ⟨trivial, h⟩
      · exact h.elim
    · exact h.elim
  · exact h.elim
def xOp (P : Program) (dr : Bool) (o : Op) (s : Scr) (env : Env) (L : LH) (k : Scr → Env → PV → LH → Prop) : Prop :=
  match o with
  | .pick c a b => match evalIn env c with
    | .lit (.bool t) => match strip s, c with
      | .f s1 s2, .tmp g => (t = true → fV (evalIn env a) fun v => k s1 (setB env g true) v L) ∧ (t = false → fV (evalIn env b) fun v => k s2 (setB env g false) v L)
      | s, _ => match t with
        | true => fV (evalIn env a) fun v => k (dec s) env v L
        | false => fV (evalIn env b) fun v => k (dec s) env v L
    | _ => False
  | .call c => match c.callee with
    | .value (.func g) => xCall P dr g (c.args.toList.map (evalIn env)) s L fun s v L' => k s env v L'
    | _ => xPlain P dr (.call c) s env L fun s v L' => k s env v L'
  | .box t x => match dr, strip s with
    | false, .d (n + 1) s => fV (evalIn env x) fun v => match v.cells.all PV.one with
      | true => xBox v L fun v L' => k (.d n s) env v L'
      | false => False
    | false, .e => fV (evalIn env x) fun v => match v.cells.all PV.one with
      | true => xBox v L fun v L' => k .e env v L'
      | false => False
    | dr, s => xPlain P dr (.box t x) s env L fun s v L' => k s env v L'
  | .store t a x => match dr, strip s with
    | false, .d (n + 1) s => fV (evalIn env x) fun v => xStore P t (evalIn env a) v L fun L' => k (.d n s) env (.lit undef) L'
    | false, .e => fV (evalIn env x) fun v => xStore P t (evalIn env a) v L fun L' => k .e env (.lit undef) L'
    | dr, s => xPlain P dr (.store t a x) s env L fun s v L' => k s env v L'
  | o => xPlain P dr o s env L fun s v L' => k s env v L'
theorem xOp_ok {dr : Bool} {all : List Oper} {o : Oper} {s : Scr} {k : Scr → Env → PV → LH → Prop} (hg : GuardIs all env o true) (h : xOp P dr o.op s env L k) :
    ∃ s' v L', stepV P Γ dr all o env L v L' ∧ k s' env v L' := by
  unfold xOp at h
  split at h
  · rename_i c a b hop
    split at h
    · rename_i t hc
      split at h
      · rename_i g hs
        simp only [evalIn] at hc
        cases t with
        | true =>
          have := h.1 rfl
          rw [fV_eq, setB_eq hc] at this
          exact ⟨_, _, L, ⟨noCon, noCon_ok, .inl ⟨hg, .inl ⟨_, a, b, true, hop, hc, rfl, rfl⟩⟩⟩, this⟩
        | false =>
          have := h.2 rfl
          rw [fV_eq, setB_eq hc] at this
          exact ⟨_, _, L, ⟨noCon, noCon_ok, .inl ⟨hg, .inl ⟨_, a, b, false, hop, hc, rfl, rfl⟩⟩⟩, this⟩
      · cases t with
        | true =>
          rw [fV_eq] at h
          exact ⟨_, _, L, ⟨noCon, noCon_ok, .inl ⟨hg, .inl ⟨_, a, b, true, hop, hc, rfl, rfl⟩⟩⟩, h⟩
        | false =>
          simp only [fV_eq] at h
          exact ⟨_, _, L, ⟨noCon, noCon_ok, .inl ⟨hg, .inl ⟨_, a, b, false, hop, hc, rfl, rfl⟩⟩⟩, h⟩
    · exact h.elim
  · rename_i c hop
    split at h
    · rename_i g hcl
      obtain ⟨Γ', s', v, L', hΓ', hr, hk⟩ := xCall_ok h
      refine ⟨s', v, L', ⟨Γ', hΓ', .inl ⟨hg, .inr ?_⟩⟩, hk⟩
      have e : opF P Γ' dr (evalIn env) L o.op = callF Γ' dr g (c.args.toList.map (evalIn env)) L := by
        rw [hop]; simp only [opF, hcl]
      rw [e]; exact hr
    · obtain ⟨s', v, L', hr, hk⟩ := xPlain_ok h
      exact ⟨s', v, L', ⟨noCon, noCon_ok, .inl ⟨hg, .inr (by rw [hop]; exact hr)⟩⟩, hk⟩
  · rename_i t x hop
    split at h
    · rename_i n s _
      rw [fV_eq] at h
      split at h
      · rename_i hb
        rw [xBox_eq] at h
        exact ⟨_, _, _, ⟨noCon, noCon_ok, .inl ⟨hg, .inr (by rw [hop]; exact ⟨hb, rfl, rfl⟩)⟩⟩, h⟩
      · exact h.elim
    · rw [fV_eq] at h
      split at h
      · rename_i hb
        rw [xBox_eq] at h
        exact ⟨_, _, _, ⟨noCon, noCon_ok, .inl ⟨hg, .inr (by rw [hop]; exact ⟨hb, rfl, rfl⟩)⟩⟩, h⟩
      · exact h.elim
    · obtain ⟨s', v, L', hr, hk⟩ := xPlain_ok h
      exact ⟨s', v, L', ⟨noCon, noCon_ok, .inl ⟨hg, .inr (by rw [hop]; exact hr)⟩⟩, hk⟩
  · rename_i t a x hop
    split at h
    · rename_i n s _
      rw [fV_eq] at h
      obtain ⟨h1, h2, h3⟩ := xStore_ok h
      exact ⟨_, _, _, ⟨noCon, noCon_ok, .inl ⟨hg, .inr (by rw [hop]; exact ⟨h1, h2.symm, rfl⟩)⟩⟩, h3⟩
    · rw [fV_eq] at h
      obtain ⟨h1, h2, h3⟩ := xStore_ok h
      exact ⟨_, _, _, ⟨noCon, noCon_ok, .inl ⟨hg, .inr (by rw [hop]; exact ⟨h1, h2.symm, rfl⟩)⟩⟩, h3⟩
    · obtain ⟨s', v, L', hr, hk⟩ := xPlain_ok h
      exact ⟨s', v, L', ⟨noCon, noCon_ok, .inl ⟨hg, .inr (by rw [hop]; exact hr)⟩⟩, hk⟩
  · obtain ⟨s', v, L', hr, hk⟩ := xPlain_ok h
    exact ⟨s', v, L', ⟨noCon, noCon_ok, .inl ⟨hg, .inr hr⟩⟩, hk⟩
def xPre : Scr → Env → LH → (Scr → Env → LH → Prop) → Prop
  | .d 0 s, env, L, k => xPre s env L k
  | .z t cs s, env, L, k => match lookup env t with
    | .own id off n sz => match L[id]? with
      | some (.cells row) => off + n * sz ≤ row.length ∧ (row.drop off).take (n * sz) = cs ∧ closedL cs = true ∧ fL (L.set id .dead) fun L' => xPre s ((t, .ro n cs) :: env) L' k
      | _ => False
    | .ptr id 0 => match L[id]? with
      | some (.cells row) => row = cs ∧ closedL cs = true ∧ fL (L.set id .dead) fun L' => xPre s ((t, .rptr cs) :: env) L' k
      | _ => False
    | _ => False
  | .r id cs s, env, L, k => match L[id]? with
    | some (.cells row) => row = cs ∧ fL (L.set id (.cells cs)) fun L' => xPre s env L' k
    | _ => False
  | .y t sz s, env, L, k => match lookup env t with
    | .lit (.slice none 0 0) => fN L.length fun n => fL (L ++ [LE.cells []]) fun L' => xPre s ((t, .own n 0 0 sz) :: env) L' k
    | _ => False
  | .yc id j sz s, env, L, k => match L[id]? with
    | some (.cells cs) => match cs[j]? with
      | some (.lit (.slice none 0 0)) => fN L.length fun n => fL ((L ++ [LE.cells []]).set id (.cells (cs.set j (.own n 0 0 sz)))) fun L' => xPre s env L' k
      | _ => False
    | _ => False
  | .zc id j cs s, env, L, k => match L[id]? with
    | some (.cells row) => match row[j]? with
      | some (.own kk off n sz) => match Nat.beq kk id with
        | false => match L[kk]? with
          | some (.cells r2) => off + n * sz ≤ r2.length ∧ (r2.drop off).take (n * sz) = cs ∧ closedL cs = true ∧ fL ((L.set kk .dead).set id (.cells (row.set j (.ro n cs)))) fun L' => xPre s env L' k
          | _ => False
        | true => False
      | _ => False
    | _ => False
  | .mc id j s, env, L, k => match L[id]? with
    | some (.cells row) => match row[j]? with
      | some (.own kk off n sz) => match Nat.beq kk id with
        | false => match L[kk]? with
          | some (.cells r2) => fN L.length fun nn => fL ((L.set kk .dead ++ [LE.cells r2]).set id (.cells (row.set j (.own nn off n sz)))) fun L' => xPre s env L' k
          | _ => False
        | true => False
      | _ => False
    | _ => False
  | s, env, L, k => k s env L
theorem set_self {L : LH} {id : Nat} {x : LE} (h : L[id]? = some x) : L.set id x = L := by
  apply List.ext_getElem?
  intro i
  rw [List.getElem?_set]
  split
  · rename_i e; subst e
    split
    · exact h.symm
    · rename_i hl; rw [List.getElem?_eq_none (by omega)]
  · rfl
theorem xPre_ok {all ops : List Oper} {R : Env → LH → Prop} {K : Scr → Env → LH → Prop} (hK : ∀ s env L, K s env L → ∃ env' L', LRun P Γ all ops env L env' L' ∧ R env' L') :
    ∀ {s : Scr} {env : Env} {L : LH}, xPre s env L K → ∃ env' L', LRun P Γ all ops env L env' L' ∧ R env' L' := by
  intro s
  induction s with
  | d n s ih =>
    intro env L h
    cases n with
    | zero => exact ih h
    | succ n => exact hK _ _ _ h
  | z t cs s ih =>
    intro env L h
    simp only [xPre] at h
    split at h
    · rename_i id off n sz hl
      split at h
      · rename_i row hL
        obtain ⟨h1, h2, h3, h4⟩ := h
        rw [fL_eq] at h4
        obtain ⟨env', L', h5, h6⟩ := ih h4
        have hs : slc L (.own id off n sz) = (off + n * sz ≤ row.length, n, cs) := by simp only [slc, hL, h2]
        exact ⟨env', L', .freeze hl (by rw [hs]; exact h1) (by rw [hs]; exact h3) (by rw [hs]; exact h5), h6⟩
      · exact h.elim
    · rename_i id hl
      split at h
      · rename_i row hL
        obtain ⟨h1, h2, h3⟩ := h
        rw [fL_eq] at h3
        obtain ⟨env', L', h5, h6⟩ := ih h3
        subst h1
        exact ⟨env', L', .freezep hl hL h2 h5, h6⟩
      · exact h.elim
    · exact h.elim
  | r id cs s ih =>
    intro env L h
    simp only [xPre] at h
    split at h
    · rename_i row hL
      obtain ⟨rfl, h2⟩ := h
      rw [fL_eq, set_self hL] at h2
      exact ih h2
    · exact h.elim
  | y t sz s ih =>
    intro env L h
    simp only [xPre] at h
    split at h
    · rename_i hl
      rw [fN_eq, fL_eq] at h
      obtain ⟨env', L', h5, h6⟩ := ih h
      exact ⟨env', L', .thaw hl h5, h6⟩
    · exact h.elim
  | yc id j sz s ih =>
    intro env L h
    simp only [xPre] at h
    split at h
    · rename_i cs hL
      split at h
      · rename_i hj
        rw [fN_eq, fL_eq] at h
        obtain ⟨env', L', h5, h6⟩ := ih h
        exact ⟨env', L', .thawc hL hj h5, h6⟩
      · exact h.elim
    · exact h.elim
  | zc id j cs s ih =>
    intro env L h
    simp only [xPre] at h
    split at h
    · rename_i row hL
      split at h
      · rename_i kk off n sz hj
        split at h
        · rename_i hne
          split at h
          · rename_i r2 hk
            obtain ⟨h1, h2, h3, h4⟩ := h
            rw [fL_eq] at h4
            obtain ⟨env', L', h5, h6⟩ := ih h4
            have hs : slc L (.own kk off n sz) = (off + n * sz ≤ r2.length, n, cs) := by simp only [slc, hk, h2]
            have hne' : kk ≠ id := by rintro rfl; rw [Nat.beq_refl] at hne; cases hne
            exact ⟨env', L', .freezec hne' hL hj (by rw [hs]; exact h1) (by rw [hs]; exact h3) (by rw [hs]; exact h5), h6⟩
          · exact h.elim
        · exact h.elim
      · exact h.elim
    · exact h.elim
  | mc id j s ih =>
    intro env L h
    simp only [xPre] at h
    split at h
    · rename_i row hL
      split at h
      · rename_i kk off n sz hj
        split at h
        · rename_i hne
          split at h
          · rename_i r2 hk
            rw [fN_eq, fL_eq] at h
            obtain ⟨env', L', h5, h6⟩ := ih h
            have hne' : kk ≠ id := by rintro rfl; rw [Nat.beq_refl] at hne; cases hne
            exact ⟨env', L', .movec hne' hL hj hk h5, h6⟩
          · exact h.elim
        · exact h.elim
      · exact h.elim
    · exact h.elim
  | _ => intro env L h; exact hK _ _ _ h
def xStep (P : Program) (dr : Bool) (all : List Oper) (o : Oper) (s : Scr) (env : Env) (L : LH) (k : Scr → Env → PV → LH → Prop) : Prop :=
  xGuard all o.guard s env fun run s env => match run with
    | true => xOp P dr o.op s env L k
    | false => k (dec (strip s)) env (.lit undef) L
theorem xStep_ok {dr : Bool} {all : List Oper} {o : Oper} {s : Scr} {k : Scr → Env → PV → LH → Prop} (h : xStep P dr all o s env L k) :
    ∃ s' v L', stepV P Γ dr all o env L v L' ∧ k s' env v L' := by
  obtain ⟨b, s', hg, h⟩ := xGuard_ok h
  cases b with
  | true => exact xOp_ok hg h
  | false => exact ⟨_, _, L, ⟨noCon, noCon_ok, .inr ⟨hg, rfl, rfl⟩⟩, h⟩
def xSeq (P : Program) (all : List Oper) : List Oper → Scr → Env → LH → (Scr → Env → LH → Prop) → Prop
  | [], s, env, L, k => xPre s env L k
  | o :: r, s, env, L, k => xPre s env L fun s env L => xStep P false all o s env L fun s env v L' => fP env o.dst v fun env => xSeq P all r s env L' k
theorem xSeq_ok {all : List Oper} {k : Scr → Env → LH → Prop} : ∀ {ops : List Oper} {s : Scr} {env : Env} {L : LH}, xSeq P all ops s env L k → ∃ env' L', LRun P Γ all ops env L env' L' ∧ ∃ s', k s' env' L'
  | [], s, env, L, h => xPre_ok (R := fun env' L' => ∃ s', k s' env' L') (fun s env L h => ⟨env, L, .nil, s, h⟩) h
  | o :: r, s, env, L, h => xPre_ok (R := fun env' L' => ∃ s', k s' env' L') (fun s env L h => by
      obtain ⟨s', v, L1, h1, h2⟩ := xStep_ok (Γ := Γ) h
      rw [fP_eq] at h2
      obtain ⟨env', L', h3, h4⟩ := xSeq_ok h2
      exact ⟨env', L', .cons h1 h3, h4⟩) h
def xPreR : Scr → LH → (Scr → LH → Prop) → Prop
  | .d 0 s, L, k => xPreR s L k
  | .r id cs s, L, k => match L[id]? with
    | some (.cells row) => row = cs ∧ fL (L.set id (.cells cs)) fun L' => xPreR s L' k
    | _ => False
  | s, L, k => k s L
theorem xPreR_ok {K : Scr → LH → Prop} : ∀ {s : Scr} {L : LH}, xPreR s L K → ∃ s', K s' L := by
  intro s
  induction s with
  | d n s ih =>
    intro L h
    cases n with
    | zero => exact ih h
    | succ n => exact ⟨_, h⟩
  | r id cs s ih =>
    intro L h
    simp only [xPreR] at h
    split at h
    · rename_i row hL
      obtain ⟨rfl, h2⟩ := h
      rw [fL_eq, set_self hL] at h2
      exact ih h2
    · exact h.elim
  | _ => intro L h; exact ⟨_, h⟩
def xAny (P : Program) (all : List Oper) : List Oper → Scr → Env → LH → (Scr → Env → LH → Prop) → Prop
  | [], s, env, L, k => xPreR s L fun s L => k s env L
  | o :: r, s, env, L, k => xPreR s L fun s L => xStep P (md o.op) all o s env L fun s env v L' => fP env o.dst v fun env => xAny P all r s env L' k
theorem xAny_ok {all : List Oper} {k : Scr → Env → LH → Prop} : ∀ {ops : List Oper} {s : Scr} {env : Env} {L : LH}, xAny P all ops s env L k → ∃ env' L', ARun P Γ all ops env L env' L' ∧ ∃ s', k s' env' L'
  | [], s, env, L, h => by
    obtain ⟨s', h⟩ := xPreR_ok h
    exact ⟨env, L, ⟨rfl, rfl⟩, s', h⟩
  | o :: r, s, env, L, h => by
    obtain ⟨s0, h⟩ := xPreR_ok h
    obtain ⟨s', v, L1, h1, h2⟩ := xStep_ok (Γ := Γ) h
    rw [fP_eq] at h2
    obtain ⟨env', L', h3, h4⟩ := xAny_ok h2
    exact ⟨env', L', ⟨v, L1, h1, h3⟩, h4⟩
end Go.Ab
namespace Go.Ab
open Go Go.RowKit
set_option linter.unusedVariables false
set_option linter.unusedSimpArgs false
variable {P : Program} {Γ : Con} {L : LH} {env : Env}
abbrev XK := Exit → Scr → Env → LH → Prop
def xIt (body : Scr → Env → LH → XK → Prop) : Nat → Scr → Env → LH → XK → Prop
  | 0, _, _, _, _ => False
  | n + 1, s, env, L, k => body s env L fun e s env L => match e with
    | .normal => xIt body n s env L k
    | e => k e s env L
def xRegion (P : Program) (pin : Nat) (ops : List Oper) (s : Scr) (env : Env) (L : LH) (k : Scr → Env → LH → Prop) : Prop :=
  match strip s with
  | .g p q m s1 s2 => match (!Nat.beq p q && Nat.blt p ops.length && Nat.blt q ops.length && anyOk (ver1 p q ops) && anyOk (ver2 p q ops)) with
    | true => xAny P (ver1 p q ops) (ver1 p q ops) s1 env L fun s env1 L1 => match lsOk (ver1 p q ops) env1 with
      | true => xAny P (ver2 p q ops) (ver2 p q ops) s2 env L (fun _ env2 L2 => match lsOk (ver2 p q ops) env2 with
          | true => xW (wk pin m env2 L2 env1 L1)
          | false => False) ∧ k s env1 L1
      | false => False
    | false => False
  | s => match anyOk ops with
    | true => xAny P ops ops s env L fun s env L => match lsOk ops env with
      | true => k s env L
      | false => False
    | false => False
def xKeep (s : Scr) (env : Env) (k : Scr → Env → Prop) : Prop :=
  match strip s with
  | .h keep s => fK env keep fun env => k s env
  | _ => k s env
def xC (P : Program) (pin : Nat) : Code → Scr → Env → LH → XK → Prop
  | .skip, s, env, L, k => k .normal s env L
  | .region _ ops draw, s, env, L, k => xKeep s env fun s env => match draw with
    | false => xSeq P ops.toList ops.toList s env L (k .normal)
    | true => xRegion P pin ops.toList s env L (k .normal)
  | .seq a b, s, env, L, k => match strip s with
    | .s (n + 1) I inv s1 s2 => xC P pin a (.s n I inv s1 s2) env L fun e s env L => match e with
      | .normal => xC P pin b s env L k
      | e => k e s env L
    | .s 0 I inv s1 s2 => (xC P pin a s1 env L fun e s env L => match e with
      | .normal => match strip s with
        | .a m => ∃ x, inv x ∧ xW (wk pin m env L (I x).1 (I x).2)
        | _ => False
      | e => k e s env L) ∧ ∀ x, inv x → xC P pin b (s2 x) (I x).1 (I x).2 k
    | s => xC P pin a s env L fun e s env L => match e with
      | .normal => xC P pin b s env L k
      | e => k e s env L
  | .cond c a b, s, env, L, k => match evalIn env c with
    | .lit (.bool t) => match strip s with
      | .f s1 s2 => (t = true → xC P pin a s1 env L k) ∧ (t = false → xC P pin b s2 env L k)
      | .n s => match t with
        | true => xC P pin a s env L k
        | false => xC P pin b s env L k
      | s => match t with
        | true => xC P pin a s env L k
        | false => xC P pin b s env L k
    | _ => False
  | .block id c, s, env, L, k => xC P pin c s env L fun e s env L => match e with
    | .exit id' => match Nat.beq id' id with
      | true => k .normal s env L
      | false => k (.exit id') s env L
    | e => k e s env L
  | .scope c, s, env, L, k => xC P pin c s env L fun e s env L => match e with
    | .goto _ => False
    | e => k e s env L
  | .label _, s, env, L, k => k .normal s env L
  | .exit id, s, env, L, k => k (.exit id) s env L
  | .ret, s, env, L, k => k .ret s env L
  | .loop c, s, env, L, k => match strip s with
    | .l I inv μ m b => (∃ x, inv x ∧ xW (wk pin m env L (I x).1 (I x).2)) ∧ ∀ x, inv x → xC P pin c (b x) (I x).1 (I x).2 fun e s env L => match e with
      | .normal => match strip s with
        | .a m => ∃ y, inv y ∧ μ y < μ x ∧ xW (wk pin m env L (I y).1 (I y).2)
        | _ => False
      | e => k e s env L
    | .u n s => xIt (fun s env L k => xC P pin c s env L k) n s env L k
    | _ => False
  | .rangeFunc g ps asg body, s, env, L, k => match strip s with
    | .o I S ok pv els q m s b => match asgShape ps asg, evalIn I g with
      | some (p, d), .fn (.func gf) [] caps => match (Nat.ble pin q && Nat.ble q (S []).length && flatC body) with
        | true => closedL caps = true ∧ envBelow q I = true ∧ xW (wk pin m env L I (S [])) ∧ IterOk P gf caps (els.map pv) ∧ (∀ x ∈ els, ok x) ∧ (∀ x, ok x → closed (pv x) = true) ∧
            (∀ pre x, ok x ∧ pre.length < els.length → xC P q body (b pre x) ((d, pv x) :: (p, pv x) :: I) (S pre) fun e s env L => match e with
              | .normal => match strip s with
                | .a m => xW (wk q m env L [] (S (pre ++ [x])))
                | _ => False
              | _ => False) ∧ fL (S els) fun L' => k .normal s I L'
        | false => False
      | _, _ => False
    | _ => False
  | _, _, _, _, _ => False
def Ex' (P : Program) (Γ : Con) (c : Code) (env : Env) (L : LH) (k : XK) : Prop := Ex P Γ c env L fun e env' L' => ∃ s, k e s env' L'
theorem xRegion_ok {pin : Nat} {id : Nat} {ops : Array Oper} {s : Scr} {k : Scr → Env → LH → Prop} (hp : Γ.pin = pin) (h : xRegion P pin ops.toList s env L k) :
    ∃ env' L', Run P Γ (.region id ops true) env L .normal env' L' ∧ ∃ s', k s' env' L' := by
  unfold xRegion at h
  split at h
  · rename_i p q m s1 s2 _
    split at h
    · rename_i hc
      simp only [Bool.and_eq_true, Bool.not_eq_true'] at hc
      obtain ⟨env1, L1, h1, s', h2⟩ := xAny_ok (Γ := Γ) h
      split at h2
      · rename_i hl1
        obtain ⟨h3, h4⟩ := h2
        obtain ⟨env2, L2, h5, _, h6⟩ := xAny_ok (Γ := Γ) h3
        split at h6
        · rename_i hl2
          have hne : p ≠ q := by
            rintro rfl
            rw [Nat.beq_refl] at hc
            exact absurd hc.1.1.1.1 (by simp)
          exact ⟨env1, L1, .regionTwo hne (Nat.le_of_ble_eq_true hc.1.1.1.2) (Nat.le_of_ble_eq_true hc.1.1.2) h1 hc.1.2 hl1 h5 hc.2 hl2 (by rw [hp]; exact xW_ok h6), s', h4⟩
        · exact h6.elim
      · exact h2.elim
    · exact h.elim
  · split at h
    · rename_i hd
      obtain ⟨env', L', h1, s', h2⟩ := xAny_ok (Γ := Γ) h
      split at h2
      · rename_i hl
        exact ⟨env', L', .regionAny h1 hd hl, s', h2⟩
      · exact h2.elim
    · exact h.elim
theorem xC_ok' : ∀ (c : Code) {Γ : Con} {pin : Nat} (hp : Γ.pin = pin) {s : Scr} {env : Env} {L : LH} {k : XK}, xC P pin c s env L k → Ex' P Γ c env L k := by
  intro c
  induction c with
  | skip => intro Γ pin hp s env L k h; exact ⟨_, _, _, .skip, s, h⟩
  | region id ops draw =>
    intro Γ pin hp s env L k h
    have go : ∀ {s : Scr} {env : Env}, (match (generalizing := false) draw with
        | false => xSeq P ops.toList ops.toList s env L (k .normal)
        | true => xRegion P pin ops.toList s env L (k .normal)) → Ex' P Γ (.region id ops draw) env L k := by
      intro s env h
      cases draw with
      | false =>
        obtain ⟨env', L', h1, h2⟩ := xSeq_ok (Γ := Γ) h
        exact ⟨_, _, _, .region h1, h2⟩
      | true =>
        obtain ⟨env', L', h1, h2⟩ := xRegion_ok (id := id) hp h
        exact ⟨_, _, _, h1, h2⟩
    simp only [xC] at h
    unfold xKeep at h
    split at h
    · rename_i keep s _
      rw [fK_eq] at h
      obtain ⟨e, env', L', h1, h2⟩ := go h
      exact ⟨e, env', L', .less (lookup_narrow keep env) h1, h2⟩
    · exact go h
  | seq a b iha ihb =>
    intro Γ pin hp s env L k h
    simp only [xC] at h
    have plain : ∀ {s : Scr}, (xC P pin a s env L fun e s env L => match e with
        | .normal => xC P pin b s env L k
        | e => k e s env L) → Ex' P Γ (.seq a b) env L k := by
      intro s h
      obtain ⟨e, env1, L1, h1, s', h2⟩ := iha hp h
      cases e with
      | normal =>
        obtain ⟨e, env2, L2, h3, h4⟩ := ihb hp h2
        exact ⟨_, _, _, .seq h1 h3, h4⟩
      | exit id => exact ⟨_, _, _, .seqOut h1 (by simp), s', h2⟩
      | goto l => exact ⟨_, _, _, .seqOut h1 (by simp), s', h2⟩
      | ret => exact ⟨_, _, _, .seqOut h1 (by simp), s', h2⟩
      | panic ch => exact ⟨_, _, _, .seqOut h1 (by simp), s', h2⟩
      | outgrown => exact ⟨_, _, _, .seqOut h1 (by simp), s', h2⟩
    split at h
    · exact plain h
    · rename_i ι I inv s1 s2 _
      obtain ⟨ha, hb⟩ := h
      obtain ⟨e, env1, L1, h1, s', h2⟩ := iha hp ha
      cases e with
      | normal =>
        simp only at h2
        split at h2
        · rename_i m _
          obtain ⟨x, hx, hw⟩ := h2
          obtain ⟨e, env2, L2, h3, h4⟩ := ihb hp (hb x hx)
          exact ⟨_, _, _, .seq h1 (.weak (by rw [hp]; exact xW_ok hw) h3), h4⟩
        · exact h2.elim
      | exit id => exact ⟨_, _, _, .seqOut h1 (by simp), s', h2⟩
      | goto l => exact ⟨_, _, _, .seqOut h1 (by simp), s', h2⟩
      | ret => exact ⟨_, _, _, .seqOut h1 (by simp), s', h2⟩
      | panic ch => exact ⟨_, _, _, .seqOut h1 (by simp), s', h2⟩
      | outgrown => exact ⟨_, _, _, .seqOut h1 (by simp), s', h2⟩
    · exact plain h
  | cond c a b iha ihb =>
    intro Γ pin hp s env L k h
    simp only [xC] at h
    split at h
    · rename_i t hc
      have goT : ∀ {s : Scr}, t = true → xC P pin a s env L k → Ex' P Γ (.cond c a b) env L k := by
        rintro s rfl h
        obtain ⟨e, env1, L1, h1, h2⟩ := iha hp h
        exact ⟨_, _, _, .cond hc h1, h2⟩
      have goF : ∀ {s : Scr}, t = false → xC P pin b s env L k → Ex' P Γ (.cond c a b) env L k := by
        rintro s rfl h
        obtain ⟨e, env1, L1, h1, h2⟩ := ihb hp h
        exact ⟨_, _, _, .cond hc h1, h2⟩
      split at h
      · cases t with
        | true => exact goT rfl (h.1 rfl)
        | false => exact goF rfl (h.2 rfl)
      · cases t with
        | true => exact goT rfl h
        | false => exact goF rfl h
      · cases t with
        | true => exact goT rfl h
        | false => exact goF rfl h
    · exact h.elim
  | block id c ih =>
    intro Γ pin hp s env L k h
    obtain ⟨e, env1, L1, h1, s', h2⟩ := ih hp (by simpa only [xC] using h)
    cases e with
    | exit id' =>
      simp only at h2
      split at h2
      · rename_i hb
        have := Nat.eq_of_beq_eq_true hb
        subst this
        exact ⟨_, _, _, .blockOut h1, s', h2⟩
      · rename_i hb
        have hne : id' ≠ id := by rintro rfl; rw [Nat.beq_refl] at hb; cases hb
        exact ⟨_, _, _, .block h1 (by simpa using hne), s', h2⟩
    | normal => exact ⟨_, _, _, .block h1 (by simp), s', h2⟩
    | goto l => exact ⟨_, _, _, .block h1 (by simp), s', h2⟩
    | ret => exact ⟨_, _, _, .block h1 (by simp), s', h2⟩
    | panic ch => exact ⟨_, _, _, .block h1 (by simp), s', h2⟩
    | outgrown => exact ⟨_, _, _, .block h1 (by simp), s', h2⟩
  | scope c ih =>
    intro Γ pin hp s env L k h
    obtain ⟨e, env1, L1, h1, s', h2⟩ := ih hp (by simpa only [xC] using h)
    cases e with
    | goto l => exact h2.elim
    | normal => exact ⟨_, _, _, .scope h1 (by simp), s', h2⟩
    | exit id => exact ⟨_, _, _, .scope h1 (by simp), s', h2⟩
    | ret => exact ⟨_, _, _, .scope h1 (by simp), s', h2⟩
    | panic ch => exact ⟨_, _, _, .scope h1 (by simp), s', h2⟩
    | outgrown => exact ⟨_, _, _, .scope h1 (by simp), s', h2⟩
  | label l => intro Γ pin hp s env L k h; exact ⟨_, _, _, .label, s, h⟩
  | exit id => intro Γ pin hp s env L k h; exact ⟨_, _, _, .exit, s, h⟩
  | ret => intro Γ pin hp s env L k h; exact ⟨_, _, _, .ret, s, h⟩
  | loop c ih =>
    intro Γ pin hp s env L k h
    simp only [xC] at h
    split at h
    · rename_i ι I inv μ m b _
      obtain ⟨⟨x0, hx0, hw⟩, hs⟩ := h
      refine Ex.weak (unf m) (by rw [hp]; exact xW_ok hw) (Ex.loop (ι := {x : ι // inv x}) (fun x => I x.1) (fun x => μ x.1) (fun x => ?_) ⟨x0, hx0⟩)
      obtain ⟨x, hx⟩ := x
      obtain ⟨e, env1, L1, h1, s', h2⟩ := ih hp (hs x hx)
      refine ⟨e, env1, L1, h1, ?_⟩
      cases e with
      | normal =>
        simp only at h2
        split at h2
        · rename_i m' _
          obtain ⟨y, hy, hlt, hw⟩ := h2
          exact ⟨⟨y, hy⟩, unf m', hlt, by rw [hp]; exact xW_ok hw⟩
        · exact h2.elim
      | exit id => exact ⟨s', h2⟩
      | goto l => exact ⟨s', h2⟩
      | ret => exact ⟨s', h2⟩
      | panic ch => exact ⟨s', h2⟩
      | outgrown => exact ⟨s', h2⟩
    · rename_i n s _
      have key : ∀ n {s : Scr} {env : Env} {L : LH}, xIt (fun s env L k => xC P pin c s env L k) n s env L k → Ex' P Γ (.loop c) env L k := by
        intro n
        induction n with
        | zero => intro s env L h; exact h.elim
        | succ n ihn =>
          intro s env L h
          obtain ⟨e, env1, L1, h1, s', h2⟩ := ih hp h
          cases e with
          | normal =>
            obtain ⟨e, env2, L2, h3, h4⟩ := ihn h2
            exact ⟨_, _, _, .loop h1 h3, h4⟩
          | exit id => exact ⟨_, _, _, .loopOut h1 (by simp), s', h2⟩
          | goto l => exact ⟨_, _, _, .loopOut h1 (by simp), s', h2⟩
          | ret => exact ⟨_, _, _, .loopOut h1 (by simp), s', h2⟩
          | panic ch => exact ⟨_, _, _, .loopOut h1 (by simp), s', h2⟩
          | outgrown => exact ⟨_, _, _, .loopOut h1 (by simp), s', h2⟩
      exact key n h
    · exact h.elim
  | rangeFunc g ps asg body iha ihb =>
    intro Γ pin hp s env L k h
    simp only [xC] at h
    split at h
    · rename_i ε I S ok pv els q m s b _
      split at h
      · rename_i p d gf caps hs hg
        split at h
        · rename_i hc
          obtain ⟨hc1, hc2, h1, h2, h3, h4, h5, h6⟩ := h
          simp only [Bool.and_eq_true] at hc
          rw [fL_eq] at h6
          have hb : ∀ (pre : List ε) (x : ε), ∃ env1 L1 mm, ok x ∧ pre.length < els.length → Run P ⟨Γ.tab, q⟩ body ((d, pv x) :: (p, pv x) :: I) (S pre) .normal env1 L1 ∧ Weak q mm env1 L1 [] (S (pre ++ [x])) := by
            intro pre x
            by_cases hx : ok x ∧ pre.length < els.length
            · obtain ⟨e, env1, L1, r1, s', r2⟩ := ihb (Γ := ⟨Γ.tab, q⟩) (pin := q) rfl (h5 pre x hx)
              cases e with
              | normal =>
                dsimp only at r2
                split at r2
                · rename_i mm _
                  exact ⟨env1, L1, unf mm, fun _ => ⟨r1, xW_ok r2⟩⟩
                · exact r2.elim
              | exit id => exact r2.elim
              | goto l => exact r2.elim
              | ret => exact r2.elim
              | panic ch => exact r2.elim
              | outgrown => exact r2.elim
            · exact ⟨[], [], [], fun h => absurd h hx⟩
          have hE := fun pre x => Classical.choose_spec (hb pre x)
          have hE2 := fun pre x => Classical.choose_spec (hE pre x)
          have hE3 := fun pre x => Classical.choose_spec (hE2 pre x)
          refine ⟨.normal, I, S els, .weak (by rw [hp]; exact xW_ok h1) (.rangeFunc (ok := ok) (E := fun pre x => Classical.choose (hb pre x)) (L1 := fun pre x => Classical.choose (hE pre x)) (m := fun pre x => Classical.choose (hE2 pre x)) hs hg hc1
            (by rw [hp]; exact Nat.le_of_ble_eq_true hc.1.1) (Nat.le_of_ble_eq_true hc.1.2) hc2 hc.2 h2 h3 h4 rfl (fun pre x hx => (hE3 pre x hx).1) (fun pre x hx => (hE3 pre x hx).2)), s, h6⟩
        · exact h.elim
      · exact h.elim
    · exact h.elim
  | _ => intro Γ pin hp s env L k h; exact h.elim
theorem envB_cons {q i : Nat} {p : PV} {r : List (Nat × PV)} (h : okW (lowB q) p = true) (hr : envBelow q r = true) : envBelow q ((i, p) :: r) = true := by simp only [envBelow, h, hr, Bool.and_self]
theorem xC_ok {pin : Nat} (hp : Γ.pin = pin) (c : Code) {s : Scr} {env : Env} {L : LH} {k : XK} (h : xC P pin c s env L k) : Ex' P Γ c env L k := xC_ok' c hp h
def resB (P : Program) (env : Env) (L : LH) : List ResultVar → Bool
  | [] => true
  | .tmp _ :: r => resB P env L r
  | .cell a t :: r => loadB P t (lookup env a) L && resB P env L r
theorem resB_ok : ∀ {l : List ResultVar}, resB P env L l = true → resAll P env L l
  | [], _ => trivial
  | .tmp _ :: r, h => ⟨trivial, resB_ok h⟩
  | .cell a t :: r, h => by
    simp only [resB, Bool.and_eq_true] at h
    exact ⟨loadB_pre h.1, resB_ok h.2⟩
def resV (P : Program) (env : Env) (L : LH) : List ResultVar → PV
  | [r] => (resOne P env L r).2
  | rs => .tup (rs.map fun r => (resOne P env L r).2)
theorem resV_eq {fn : Func} : resPV P fn env L = resV P env L fn.results.toList := by
  unfold resPV resV
  generalize fn.results.toList = l
  rcases l with _ | ⟨r, _ | ⟨s, rs⟩⟩ <;> rfl
def xShut (L : LH) (p r : PV) : Prop :=
  match p with
  | .own id off n sz => match L[id]? with
    | some (.cells row) => off + n * sz ≤ row.length ∧ closedL ((row.drop off).take (n * sz)) = true ∧ PV.new n sz ((row.drop off).take (n * sz)) = r
    | _ => False
  | .tup (q :: rs) => match q with
    | .own id off n sz => match L[id]? with
      | some (.cells row) => off + n * sz ≤ row.length ∧ closedL ((row.drop off).take (n * sz)) = true ∧ closedL rs = true ∧ PV.tup (.new n sz ((row.drop off).take (n * sz)) :: rs) = r
      | _ => False
    | .lit (.slice none 0 0) => match r with
      | .tup (.new 0 sz [] :: rs') => PV.tup rs = .tup rs' ∧ closedL rs = true
      | r => PV.tup (q :: rs) = r ∧ closed r = true
    | q => PV.tup (q :: rs) = r ∧ closed r = true
  | .lit (.slice none 0 0) => match r with
    | .new 0 sz [] => True
    | r => p = r ∧ closed r = true
  | p => p = r ∧ closed r = true
theorem shutOk_closed {p r : PV} (h : p = r ∧ closed r = true) : ShutOk L p r := by
  obtain ⟨rfl, hc⟩ := h
  refine .inl ?_
  unfold shut
  split
  · simp [closed] at hc
  · simp [closed, closedL] at hc
  · rename_i rs _
    have : closedL rs = true := by simpa [closed] using hc
    exact ⟨.inl this, by simp only [clr, this, cond_true]⟩
  · exact ⟨.inl hc, by simp only [borrow, hc, cond_true]⟩
theorem xShut_ok {p r : PV} (h : xShut L p r) : ShutOk L p r := by
  unfold xShut at h
  split at h
  · rename_i id off n sz
    split at h
    · rename_i row hL
      obtain ⟨h1, h2, rfl⟩ := h
      have hs : slc L (.own id off n sz) = (off + n * sz ≤ row.length, n, (row.drop off).take (n * sz)) := by simp only [slc, hL]
      refine .inl ?_
      simp only [shut, hs]
      exact ⟨⟨h1, .inl h2⟩, by simp only [clr, h2, cond_true]⟩
    · exact h.elim
  · rename_i q rs
    split at h
    · rename_i id off n sz
      split at h
      · rename_i row hL
        obtain ⟨h1, h2, h3, rfl⟩ := h
        have hs : slc L (.own id off n sz) = (off + n * sz ≤ row.length, n, (row.drop off).take (n * sz)) := by simp only [slc, hL]
        refine .inl ?_
        simp only [shut, hs]
        exact ⟨⟨h1, .inl h2, .inl h3⟩, by simp only [clr, h2, h3, cond_true]⟩
      · exact h.elim
    · split at h
      · rename_i sz rs'
        obtain ⟨h1, h2⟩ := h
        cases h1
        exact .inr (.inr ⟨rs, sz, rfl, h2, rfl⟩)
      · exact shutOk_closed h
    · exact shutOk_closed h
  · split at h
    · rename_i sz
      exact .inr (.inl ⟨rfl, sz, rfl⟩)
    · exact shutOk_closed h
  · exact shutOk_closed h
def xFin (P : Program) (fn : Func) (r : PV) : XK := fun e _ env L => match e with
  | .normal => match resB P env L fn.results.toList with
    | true => fV (resV P env L fn.results.toList) fun p => xShut L p r
    | false => False
  | .ret => match resB P env L fn.results.toList with
    | true => fV (resV P env L fn.results.toList) fun p => xShut L p r
    | false => False
  | _ => False
theorem xFin_ok {fn : Func} {r : PV} {e : Exit} {s : Scr} (h : xFin P fn r e s env L) : Fin P fn r e env L := by
  unfold xFin at h
  split at h
  · split at h
    · rename_i hb
      rw [fV_eq] at h
      exact ⟨.inl rfl, resB_ok hb, by rw [resV_eq]; exact xShut_ok h⟩
    · exact h.elim
  · split at h
    · rename_i hb
      rw [fV_eq] at h
      exact ⟨.inr rfl, resB_ok hb, by rw [resV_eq]; exact xShut_ok h⟩
    · exact h.elim
  · exact h.elim
def bodyOf (f : Func) : Code := match f.body with
  | some c => c
  | none => .skip
def fnB (fn : Func) (n : Nat) : Bool := fn.body.isSome && fits fn.ntmps (bodyOf fn) && Nat.ble n fn.ntmps
theorem callR_of {P : Program} (hm : P.follows .mixedOrders = true) {f : FuncId} {fn : Func} {args : List PV} {r : PV} (hf : P.funcs[f]? = some fn)
    (hcall : ∀ (vs : Array Value) (w : World), (callFunc f vs).run P w = .ok (.enter f vs) w) (hb : fnB fn args.length = true)
    (s : Scr) {F : Prop} (hx : F = xC P 0 (bodyOf fn) s (entry 0 args) [] (xFin P fn r)) (h : F) : CallR P f args r := by
  simp only [fnB, Bool.and_eq_true] at hb
  obtain ⟨⟨h1, h2⟩, h3⟩ := hb
  have hbody : fn.body = some (bodyOf fn) := by
    unfold bodyOf
    cases hfb : fn.body with
    | none => rw [hfb] at h1; cases h1
    | some c => rfl
  refine pureOk_of noCon_ok hm hf hbody h2 hcall fun a ha => ?_
  obtain rfl : a = args := ha
  refine ⟨Nat.le_of_ble_eq_true h3, ?_⟩
  rw [hx] at h
  exact Ex.mono (xC_ok (Γ := noCon) rfl _ h) fun e env L ⟨s, hk⟩ => xFin_ok hk
end Go.Ab
namespace Go.Ab
open Go Go.RowKit
set_option linter.unusedVariables false
set_option linter.unusedSimpArgs false
def ul (n : Nat) : PV := .lit (.int .u64 ((n % 18446744073709551616 : Nat) : Int))
def ln (n : Nat) : PV := .lit (.int .i64 (n : Int))
def li (z : Int) : PV := .lit (.int .i64 z)
def lB (b : Bool) : PV := .lit (.bool b)
def bn (op : BinOp) (x y : PV) : PV :=
  match x, y with
  | .lit (.int k a), .lit (.int _ b) => match op with
    | .shl => .lit (.int k (k.wrap (a * 2 ^ (min b.toNat k.bits))))
    | .shr => .lit (.int k (a.fdiv (2 ^ (min b.toNat k.bits))))
    | op => .lit (binInt op k a b).2
  | _, _ => .any
def un (op : UnOp) (x : PV) : PV := (unF op x []).val
def cn (k : IntKind) (x : PV) : PV :=
  match x with
  | .lit (.int _ n) => .lit (.int k (k.wrap n))
  | _ => .any
theorem wrap_u (z : Int) : IntKind.u64.wrap z = z % 18446744073709551616 := by simp [IntKind.wrap, IntKind.bits, IntKind.signed]
theorem wrap_i {n : Int} (h1 : -9223372036854775808 ≤ n) (h2 : n ≤ 9223372036854775807) : IntKind.i64.wrap n = n := by rw [IntKind.wrap_i64]; omega
theorem wrap_b (z : Int) : IntKind.u8.wrap z = z % 256 := by simp [IntKind.wrap, IntKind.bits, IntKind.signed]
theorem ul_eq {a b : Nat} (h : a % 18446744073709551616 = b % 18446744073709551616) : ul a = ul b := by simp only [ul, h]
theorem lB_eq {p q : Prop} [Decidable p] [Decidable q] (h : p ↔ q) : lB (decide p) = lB (decide q) := by simp only [decide_eq_decide.2 h]
theorem lit_u {a : Nat} {z : Int} (h : z = ((a % 18446744073709551616 : Nat) : Int)) : PV.lit (.int .u64 z) = ul a := by rw [ul, h]
section
variable (a b : Nat)
theorem add_u : bn .add (ul a) (ul b) = ul (a + b) := by
  show PV.lit (.int .u64 (IntKind.u64.wrap _)) = _
  rw [wrap_u]; exact lit_u (by omega)
theorem sub_u : bn .sub (ul a) (ul b) = ul (a + (18446744073709551616 - b % 18446744073709551616)) := by
  show PV.lit (.int .u64 (IntKind.u64.wrap _)) = _
  rw [wrap_u]; exact lit_u (by omega)
theorem mul_u : bn .mul (ul a) (ul b) = ul (a * b) := by
  show PV.lit (.int .u64 (IntKind.u64.wrap _)) = _
  rw [wrap_u]
  refine lit_u ?_
  rw [← Int.natCast_mul, show (18446744073709551616 : Int) = ((18446744073709551616 : Nat) : Int) from rfl, ← Int.natCast_emod, ← Nat.mul_mod]
theorem bits_n (a : Nat) : BitVec.ofInt 64 ((a % 18446744073709551616 : Nat) : Int) = BitVec.ofNat 64 a := by
  rw [BitVec.ofInt_natCast]
  apply BitVec.eq_of_toNat_eq
  simp
theorem and_u : bn .and (ul a) (ul b) = ul (a &&& b) := by
  show PV.lit (.int .u64 (IntKind.u64.wrap ((BitVec.ofInt 64 _ &&& BitVec.ofInt 64 _).toNat : Int))) = _
  rw [bits_n, bits_n, wrap_u]
  refine lit_u ?_
  rw [BitVec.toNat_and, BitVec.toNat_ofNat, BitVec.toNat_ofNat, ← Nat.and_mod_two_pow]
  omega
theorem shr_u {k : Nat} (h : k ≤ 64) : bn .shr (ul a) (ln k) = ul (a % 18446744073709551616 / 2 ^ k) := by
  show PV.lit (.int .u64 (Int.fdiv ((a % 18446744073709551616 : Nat) : Int) (2 ^ (min k 64)))) = _
  refine lit_u ?_
  have e : Int.fdiv ((a % 18446744073709551616 : Nat) : Int) (2 ^ (min k 64)) = ((a % 18446744073709551616 / 2 ^ k : Nat) : Int) := by
    rw [Nat.min_eq_left h, Int.fdiv_eq_ediv_of_nonneg _ (by exact_mod_cast Nat.zero_le _)]
    rw [Int.natCast_ediv, Int.natCast_pow]
    rfl
  rw [e, Nat.mod_eq_of_lt (Nat.lt_of_le_of_lt (Nat.div_le_self _ _) (Nat.mod_lt _ (by decide)))]
variable {a b}
theorem add_n (h : a + b < 9223372036854775808) : bn .add (ln a) (ln b) = ln (a + b) := by
  show PV.lit (.int .i64 (IntKind.i64.wrap _)) = _
  rw [wrap_i (by omega) (by omega)]; rfl
theorem sub_n (h : b ≤ a) (h2 : a < 9223372036854775808) : bn .sub (ln a) (ln b) = ln (a - b) := by
  show PV.lit (.int .i64 (IntKind.i64.wrap _)) = PV.lit (.int .i64 ((a - b : Nat) : Int))
  rw [wrap_i (by omega) (by omega)]
  congr 2; omega
theorem mul_n (h : a * b < 9223372036854775808) : bn .mul (ln a) (ln b) = ln (a * b) := by
  show PV.lit (.int .i64 (IntKind.i64.wrap _)) = _
  rw [← Int.natCast_mul, wrap_i (by omega) (by omega)]; rfl
theorem quo_n (h : a < 9223372036854775808) : bn .quo (ln a) (ln b) = ln (a / b) := by
  show PV.lit (.int .i64 (IntKind.i64.wrap ((a : Int).tdiv (b : Int)))) = PV.lit (.int .i64 ((a / b : Nat) : Int))
  have h3 := Nat.div_le_self a b
  rw [← Int.ofNat_tdiv]
  generalize a / b = q at *
  rw [wrap_i (by omega) (by omega)]
theorem rem_n : bn .rem (ln a) (ln b) = ln (a % b) := by
  show PV.lit (.int .i64 ((a : Int).tmod (b : Int))) = PV.lit (.int .i64 ((a % b : Nat) : Int))
  rw [← Int.ofNat_tmod]
theorem cv_iu : cn .u64 (ln a) = ul a := by
  show PV.lit (.int .u64 (IntKind.u64.wrap _)) = _
  rw [wrap_u]; exact lit_u (by omega)
theorem cv_ub : cn .u8 (ul a) = bv (UInt8.ofNat a) := by
  show PV.lit (.int .u8 (IntKind.u8.wrap ((a % 18446744073709551616 : Nat) : Int))) = PV.lit (.int .u8 (((UInt8.ofNat a).toNat : Nat) : Int))
  rw [wrap_b]
  congr 2
  simp only [UInt8.toNat_ofNat']
  omega
end
def ltI (a b : Nat) : Bool := decide ((a : Int) < (b : Int))
def leI (a b : Nat) : Bool := decide ((a : Int) ≤ (b : Int))
def eqI (a b : Nat) : Bool := ((a : Int) == (b : Int))
theorem ltI_t {a b : Nat} (h : ltI a b = true) : a < b := by have := of_decide_eq_true h; omega
theorem ltI_f {a b : Nat} (h : ltI a b = false) : b ≤ a := by have := of_decide_eq_false h; omega
theorem leI_t {a b : Nat} (h : leI a b = true) : a ≤ b := by have := of_decide_eq_true h; omega
theorem leI_f {a b : Nat} (h : leI a b = false) : b < a := by have := of_decide_eq_false h; omega
theorem eqI_t {a b : Nat} (h : eqI a b = true) : a = b := by have := of_decide_eq_true (show decide ((a : Int) = (b : Int)) = true from h); omega
theorem eqI_f {a b : Nat} (h : eqI a b = false) : a ≠ b := by have := of_decide_eq_false (show decide ((a : Int) = (b : Int)) = false from h); omega
end Go.Ab
namespace Go.Ab
open Go Go.RowKit
theorem sub_v {a b : Nat} (h : b ≤ a) : bn .sub (ul a) (ul b) = ul (a - b) := by
  rw [sub_u]; exact ul_eq (by omega)
end Go.Ab
namespace Go.Ab
open Go Go.RowKit
theorem andm_u {a m : Nat} (k : Nat) (h : m + 1 = 2 ^ k) : bn .and (ul a) (ul m) = ul (a % 2 ^ k) := by
  rw [and_u, show m = 2 ^ k - 1 by omega, Nat.and_two_pow_sub_one_eq_mod]
end Go.Ab
namespace Go.Ab
open Go Go.RowKit
section
variable (a b : Nat)
end
end Go.Ab
namespace Go.Ab
open Go Go.RowKit
end Go.Ab
namespace Go.Ab
theorem lB_f {p : Prop} [Decidable p] (h : ¬ p) : lB false = lB (decide p) := by rw [decide_eq_false h]
end Go.Ab
namespace Go.Ab
open Go Go.RowKit
set_option linter.unusedVariables false
set_option linter.unusedSimpArgs false
def blen (n : Nat) : Nat := if n = 0 then 0 else n.log2 + 1
theorem closedL_bv (bs : List UInt8) : closedL (bs.map bv) = true := by
  rw [closedL_iff]; intro p hp; rw [List.mem_map] at hp; obtain ⟨b, _, rfl⟩ := hp; rfl
theorem flatL_bv (bs : List UInt8) : flatL (bs.map bv) = true := by
  rw [flatL_iff]; intro p hp; rw [List.mem_map] at hp; obtain ⟨b, _, rfl⟩ := hp; rfl
structure DivInv (S N b q r lo : Nat) : Prop where
  eq : N = q * b + r * S + lo
  ll : lo < S
  lr : r < b
  lq : q % S = 0
  lN : N < b * 115792089237316195423570985008687907853269984665640564039457584007913129639936
theorem DivInv.done {N b q r lo : Nat} (h : DivInv 1 N b q r lo) : N / b = q ∧ N % b = r := by
  have h1 := h.eq
  have h2 := h.ll
  have h3 := h.lr
  have e : lo = 0 := by omega
  subst e
  have e2 : N = r + b * q := by rw [h1, Nat.mul_comm b q]; omega
  constructor
  · rw [e2, Nat.add_mul_div_left _ _ (by omega), Nat.div_eq_of_lt h3, Nat.zero_add]
  · rw [e2, Nat.add_mul_mod_self_left, Nat.mod_eq_of_lt h3]
theorem DivInv.start {hi lo b : Nat} (h : hi < b) (hl : lo < 115792089237316195423570985008687907853269984665640564039457584007913129639936) : DivInv 115792089237316195423570985008687907853269984665640564039457584007913129639936 (hi * 115792089237316195423570985008687907853269984665640564039457584007913129639936 + lo) b 0 hi lo := by
  refine ⟨by omega, hl, h, by omega, ?_⟩
  have : (hi + 1) * 115792089237316195423570985008687907853269984665640564039457584007913129639936 ≤ b * 115792089237316195423570985008687907853269984665640564039457584007913129639936 := Nat.mul_le_mul_right _ h
  have e : (hi + 1) * 115792089237316195423570985008687907853269984665640564039457584007913129639936 = hi * 115792089237316195423570985008687907853269984665640564039457584007913129639936 + 115792089237316195423570985008687907853269984665640564039457584007913129639936 := Nat.succ_mul ..
  omega
def by32 (n : Nat) : List UInt8 := (List.range 32).map fun j => UInt8.ofNat (n / 2 ^ (8 * (31 - j)))
def hl (n : Nat) : List PV := (by32 n).map bv
def h32 (n : Nat) : PV := .agg (hl n)
theorem len_by32 (n : Nat) : (by32 n).length = 32 := by simp [by32]
theorem closedL_hl (n : Nat) : closedL (hl n) = true := closedL_bv _
theorem closed_h32 (n : Nat) : closed (h32 n) = true := closedL_hl n
end Go.Ab
namespace Go.Ab
open Go Go.RowKit
set_option linter.unusedVariables false
def mP (a b i : Nat) : Nat := a % 2 ^ (64 * i) * b
def mc (a b i j : Nat) : Nat := (mP a b i + a / 2 ^ (64 * i) % 2 ^ 64 * (b % 2 ^ (64 * j)) * 2 ^ (64 * i)) / 2 ^ (64 * (i + j)) - mP a b i / 2 ^ (64 * (i + j))
end Go.Ab
namespace Go.Ab
open Go Go.RowKit
end Go.Ab
namespace Go.Ab
open Go Go.RowKit
end Go.Ab
namespace Go.Ab
open Go Go.RowKit
set_option linter.unusedVariables false
theorem DivInv.next {v N b q r lo : Nat} (hv : 1 ≤ v) (h : DivInv (2 ^ (64 * v)) N b q r lo) : DivInv (2 ^ (64 * (v - 1)) * 2 ^ 64) N b q r lo := by
  rw [← Nat.pow_add, show 64 * (v - 1) + 64 = 64 * v by omega]; exact h
theorem DivInv.zero {v N b q r lo : Nat} (h : DivInv (2 ^ (64 * v) * 2 ^ 0) N b q r lo) : DivInv (2 ^ (64 * v)) N b q r lo := by
  rwa [Nat.pow_zero, Nat.mul_one] at h
end Go.Ab
namespace Go.Ab
open Go Go.RowKit
set_option linter.unusedVariables false
end Go.Ab
namespace Go.Ab
open Go Go.RowKit
set_option linter.unusedVariables false
end Go.Ab
