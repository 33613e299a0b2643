import Derived.Test.YtipnfcbpbomonaaDoorM5
namespace Go.Ab
open Go Go.RowKit
set_option linter.unusedVariables false
set_option linter.unusedSimpArgs false
variable {P : Program} {Γ : Con} {X : Nat → Prop} {β : List Base} {w : World} {L : LH} {N B : Nat} {rr : Option Nat}
set_option linter.constructorNameAsVariable false
inductive Cls where
  | m
  | r
  | l
  | a
  | s
  | k
def cls : Op → Cls
  | .move _ | .assign _ | .pick _ _ _ | .binOp _ _ _ _ _ | .unOp _ _ _ | .extract _ _ | .index _ _ _ | .field _ _ _ | .build _ _ | .buildSlice _ _ _ | .sliceToArrayPointer _ _ => .m
  | .nilCheck _ | .indexAddr _ _ _ | .fieldAddr _ _ _ => .l
  | .alloc _ | .box _ _ | .makeSlice _ _ _ => .a
  | .store _ _ _ => .s
  | .load _ _ | .convert _ _ _ | .slice _ _ _ _ _ => .r
  | .call c => match c.callee with
    | .builtin .len => .l
    | .builtin .cap => .l
    | .builtin .append => .k
    | .builtin .copy => .s
    | _ => .r
  | _ => .k
def isW : Cls → Bool
  | .a => true
  | .s => true
  | .k => true
  | _ => false
def md (o : Op) : Bool := !isW (cls o)
def freeP : Cls → Cls → Bool
  | .m, _ => true
  | _, .m => true
  | .r, .a => true
  | .l, .a => true
  | .l, .s => true
  | .s, .l => true
  | a, b => !isW a && !isW b
def addrOf : Op → Option Nat
  | .load _ (.tmp t) => some t
  | .store _ (.tmp t) _ => some t
  | _ => none
def isLS : Op → Op → Bool
  | .load _ (.tmp _), .store _ (.tmp _) _ => true
  | .store _ (.tmp _) _, .load _ (.tmp _) => true
  | _, _ => false
def steady (all : List Oper) (i : Nat) (t : Option Nat) : Bool :=
  (List.range all.length).all fun j => decide (j < i) || match all[j]? with
    | some q => q.dst != t
    | none => true
def ndMask (acc : List Nat) (o : Oper) : Nat :=
  o.after.toList.foldl (fun m e => bif Region.binds .any e then m ||| (1 <<< e.on ||| acc.getD e.on 0) else m) 0
def nds : List Oper → List Nat → List Nat
  | [], acc => acc
  | o :: r, acc => nds r (acc ++ [ndMask acc o])
def boundTo (all : List Oper) (i j : Nat) : Bool := ((nds all []).getD j 0).testBit i
inductive Dep (all : List Oper) : Nat → Nat → Prop
  | one {i : Nat} {o : Oper} {e : Edge} (ho : all[i]? = some o) (he : e ∈ o.after.toList) (hb : Region.binds .any e = true) : Dep all e.on i
  | more {i m : Nat} {o : Oper} {e : Edge} (ho : all[i]? = some o) (he : e ∈ o.after.toList) (hb : Region.binds .any e = true) (h : Dep all m e.on) : Dep all m i
theorem mask_dep {all : List Oper} {acc : List Nat} {i : Nat} {o : Oper} (ho : all[i]? = some o) (hacc : ∀ (k m : Nat), (acc.getD k 0).testBit m = true → Dep all m k) : ∀ m, (ndMask acc o).testBit m = true → Dep all m i := by
  have gen : ∀ (l : List Edge) (z : Nat), (∀ e ∈ l, e ∈ o.after.toList) → (∀ m, z.testBit m = true → Dep all m i) →
      ∀ m, (l.foldl (fun m e => bif Region.binds .any e then m ||| (1 <<< e.on ||| acc.getD e.on 0) else m) z).testBit m = true → Dep all m i := by
    intro l
    induction l with
    | nil => intro z _ hz m h; exact hz m h
    | cons e l ih =>
      intro z hl hz m h
      simp only [List.foldl_cons] at h
      refine ih _ (fun e he => hl e (by simp [he])) (fun m hm => ?_) m h
      cases hb : Region.binds .any e with
      | false => rw [hb] at hm; exact hz m hm
      | true =>
        rw [hb] at hm
        simp only [cond_true, Nat.testBit_or, Bool.or_eq_true] at hm
        rcases hm with hm | hm | hm
        · exact hz m hm
        · rw [Nat.one_shiftLeft, Nat.testBit_two_pow] at hm
          have : e.on = m := by simpa using hm
          subst this
          exact .one ho (hl e (by simp)) hb
        · exact .more ho (hl e (by simp)) hb (hacc _ _ hm)
  exact gen _ 0 (fun e he => he) (fun m hm => by simp at hm)
theorem nds_dep {all : List Oper} : ∀ (ops pre : List Oper) (acc : List Nat), all = pre ++ ops → acc.length = pre.length → (∀ (k m : Nat), (acc.getD k 0).testBit m = true → Dep all m k) →
    ∀ (k m : Nat), ((nds ops acc).getD k 0).testBit m = true → Dep all m k
  | [], pre, acc, _, _, hacc, k, m, h => hacc k m h
  | o :: r, pre, acc, he, hl, hacc, k, m, h => by
    refine nds_dep r (pre ++ [o]) (acc ++ [ndMask acc o]) (by rw [he]; simp) (by simp [hl]) (fun k m hk => ?_) k m h
    have ho : all[pre.length]? = some o := by rw [he]; simp
    by_cases h1 : k < acc.length
    · rw [List.getD_eq_getElem?_getD, List.getElem?_append_left h1, ← List.getD_eq_getElem?_getD] at hk
      exact hacc k m hk
    · by_cases h2 : k = acc.length
      · subst h2
        rw [List.getD_eq_getElem?_getD, List.getElem?_append_right (Nat.le_refl _)] at hk
        simp at hk
        rw [hl]
        exact mask_dep ho hacc m hk
      · rw [List.getD_eq_getElem?_getD, List.getElem?_eq_none (by simp; omega)] at hk
        simp at hk
theorem bound_dep {all : List Oper} {m i : Nat} (h : boundTo all m i = true) : Dep all m i :=
  nds_dep all [] [] rfl rfl (fun k m h => by simp at h) i m h
theorem dep_in {all : List Oper} {S : List Nat} (hcl : ∀ j ∈ S, ∀ q, all[j]? = some q → ∀ e ∈ q.after.toList, Region.binds .any e = true → e.on ∈ S) {m i : Nat} (h : Dep all m i) :
    (∀ o, all[i]? = some o → ∀ e ∈ o.after.toList, Region.binds .any e = true → e.on ∈ S) → m ∈ S := by
  induction h with
  | one ho he hb => intro h; exact h _ ho _ he hb
  | more ho he hb h ih => intro h; exact ih fun o ho' e he' hb' => hcl _ (h _ ho _ he hb) o ho' e he' hb'
def free1 (all : List Oper) (i : Nat) : Op → Bool
  | .indexAddr _ (.tmp t) _ => steady all i (some t)
  | .load _ (.tmp t) => steady all i (some t)
  | .slice _ (.tmp t) _ _ _ => steady all i (some t)
  | _ => false
def free0 (env : Env) : Op → Bool
  | .indexAddr _ (.tmp t) _ => match lookup env t with
    | .rptr _ => true
    | .ro _ _ => true
    | _ => false
  | .load _ (.tmp t) => match lookup env t with
    | .rptr _ => true
    | _ => false
  | .slice _ (.tmp t) _ _ _ => match lookup env t with
    | .ro _ _ => true
    | _ => false
  | _ => false
def pairOk (all : List Oper) (i j : Nat) : Bool :=
  match all[i]?, all[j]? with
  | some o, some q => boundTo all i j || freeP (cls o.op) (cls q.op) || (isLS o.op q.op && steady all i (addrOf o.op) && steady all j (addrOf q.op)) || (!isLS o.op q.op && (free1 all i o.op || free1 all j q.op))
  | _, _ => true
def anyOk (all : List Oper) : Bool := drawOk all && (List.range all.length).all fun j => (List.range j).all fun i => pairOk all i j
def rowNe : PV → PV → Bool
  | .ptr q _, .ptr r _ => q != r
  | .rptr _, .ptr _ _ => true
  | .ptr _ _, .rptr _ => true
  | _, _ => false
def addrV (env : Env) (t : Option Nat) : PV := match t with
  | some t => lookup env t
  | none => .any
def lsOk (all : List Oper) (env : Env) : Bool :=
  (List.range all.length).all fun j => (List.range j).all fun i => match all[i]?, all[j]? with
    | some o, some q => boundTo all i j || freeP (cls o.op) (cls q.op) || (isLS o.op q.op && rowNe (addrV env (addrOf o.op)) (addrV env (addrOf q.op))) ||
        (!isLS o.op q.op && ((free1 all i o.op && free0 env o.op) || (free1 all j q.op && free0 env q.op)))
    | _, _ => true
theorem get_ext {id : Nat} {x y : LE} (h : L[id]? = some x) : (L ++ [y])[id]? = some x := by
  rw [List.getElem?_append_left (List.getElem?_eq_some_iff.1 h).1]; exact h
theorem slc_ext {x : PV} {y : LE} (h : (slc L x).1) : slc (L ++ [y]) x = slc L x := by
  unfold slc at h ⊢
  split
  · rfl
  · rfl
  · rename_i id off n sz
    simp only at h
    cases hL : L[id]? with
    | none => simp [hL] at h
    | some le => rw [get_ext hL]
  · rename_i h1 h2 h3
    rfl
theorem dro_ext {y : LE} : ∀ (n : Nat) (p : PV), droOk L n p → closed (dro L n p) = true → dro (L ++ [y]) n p = dro L n p ∧ droOk (L ++ [y]) n p
  | 0, p, _, _ => ⟨by simp only [dro], by simp only [droOk]⟩
  | n + 1, p, hok, hc => by
    cases p with
    | own id off k sz =>
      simp only [dro, droOk, closed] at hok hc ⊢
      rw [slc_ext hok.1]
      have key : ∀ q ∈ (slc L (.own id off k sz)).2.2, dro (L ++ [y]) n q = dro L n q ∧ droOk (L ++ [y]) n q := fun q hq =>
        dro_ext n q (hok.2 q hq) (closedL_iff.1 hc _ (List.mem_map_of_mem hq))
      exact ⟨by rw [List.map_congr_left fun q hq => (key q hq).1], hok.1, fun q hq => (key q hq).2⟩
    | agg cs =>
      simp only [dro, droOk, closed] at hok hc ⊢
      have key : ∀ q ∈ cs, dro (L ++ [y]) n q = dro L n q ∧ droOk (L ++ [y]) n q := fun q hq =>
        dro_ext n q (hok q hq) (closedL_iff.1 hc _ (List.mem_map_of_mem hq))
      exact ⟨by rw [List.map_congr_left fun q hq => (key q hq).1], fun q hq => (key q hq).2⟩
    | ptr id off =>
      simp only [dro, droOk] at hc ⊢
      split at hc
      · rename_i cs hL
        simp only [hL, get_ext hL]
        exact ⟨trivial, trivial⟩
      · simp [closed] at hc
    | any => simp only [dro, droOk]; exact ⟨trivial, trivial⟩
    | lit u => simp only [dro, droOk]; exact ⟨trivial, trivial⟩
    | ro k cs => simp only [dro, droOk]; exact ⟨trivial, trivial⟩
    | rptr cs => simp only [dro, droOk]; exact ⟨trivial, trivial⟩
    | tup cs => simp only [dro, droOk]; exact ⟨trivial, trivial⟩
    | fn f a b => simp only [dro, droOk]; exact ⟨trivial, trivial⟩
    | new a b c => simp only [dro, droOk]; exact ⟨trivial, trivial⟩
theorem borrow_ext {y : LE} {p : PV} (h : borrowOk L p) : borrow (L ++ [y]) p = borrow L p ∧ borrowOk (L ++ [y]) p := by
  unfold borrow
  rcases h with h | ⟨h1, h2⟩
  · rw [h]; exact ⟨rfl, .inl h⟩
  · obtain ⟨e1, e2⟩ := dro_ext (y := y) 4 p h1 h2
    cases hc : closed p with
    | true => exact ⟨rfl, .inl hc⟩
    | false => exact ⟨e1, .inr ⟨e2, by rw [e1]; exact h2⟩⟩
def Same (P : Program) (Γ : Con) (ρ : Operand → PV) (op : Op) (L L' : LH) : Prop :=
  (opF P Γ true ρ L op).pre → (opF P Γ true ρ L' op).pre ∧ (opF P Γ true ρ L' op).val = (opF P Γ true ρ L op).val
theorem same_m {ρ : Operand → PV} {op : Op} (hc : cls op = .m) (L L' : LH) : Same P Γ ρ op L L' := by
  have bad : ∀ {p : Prop}, OR.bad.pre → p := fun h => h.elim
  intro h
  cases op <;> simp only [cls] at hc <;> first | (cases hc; done) | skip
  case move x => exact ⟨trivial, rfl⟩
  case assign x => exact ⟨trivial, rfl⟩
  case pick => exact h.elim
  case call c => obtain ⟨callee, args, tys⟩ := c; cases callee <;> simp only at hc <;> first | (cases hc; done) | (rename_i b; cases b <;> simp at hc)
  all_goals simp only [opF] at h ⊢
  case build t parts =>
    have e : ∀ ps, ((buildF P t ps L').pre = (buildF P t ps L).pre) ∧ (buildF P t ps L').val = (buildF P t ps L).val := by
      intro ps
      unfold buildF
      split
      · split
        · split
          · exact ⟨rfl, rfl⟩
          · exact ⟨rfl, rfl⟩
        · exact ⟨rfl, rfl⟩
      · cases (placesF P _).all Option.isSome
        · exact ⟨rfl, rfl⟩
        · simp only [cond_true]
          split
          · exact ⟨rfl, rfl⟩
          · exact ⟨rfl, rfl⟩
      · exact ⟨rfl, rfl⟩
    exact ⟨by rw [(e _).1]; exact h, (e _).2⟩
  case buildSlice t len parts =>
    have e : ∀ ps, ((buildSliceF P true t len ps L').pre = (buildSliceF P true t len ps L).pre) ∧ (buildSliceF P true t len ps L').val = (buildSliceF P true t len ps L).val := by
      intro ps
      unfold buildSliceF
      repeat' split
      all_goals first | exact ⟨rfl, rfl⟩
    exact ⟨by rw [(e _).1]; exact h, (e _).2⟩
  case binOp op t x y yt =>
    have e : ∀ a b, ((binF P op t a b L').pre = (binF P op t a b L).pre) ∧ (binF P op t a b L').val = (binF P op t a b L).val := by
      intro a b
      unfold binF
      repeat' split
      all_goals first | exact ⟨rfl, rfl⟩
    exact ⟨by rw [(e _ _).1]; exact h, (e _ _).2⟩
  case sliceToArrayPointer t x =>
    have e : ∀ a, ((arrF P t a L').pre = (arrF P t a L).pre) ∧ (arrF P t a L').val = (arrF P t a L).val := by
      intro a
      unfold arrF
      repeat' split
      all_goals first | exact ⟨rfl, rfl⟩
    exact ⟨by rw [(e _).1]; exact h, (e _).2⟩
  case unOp op t x =>
    have e : ∀ a, ((unF op a L').pre = (unF op a L).pre) ∧ (unF op a L').val = (unF op a L).val := by
      intro a
      unfold unF
      repeat' split
      all_goals first | exact ⟨rfl, rfl⟩
    exact ⟨by rw [(e _).1]; exact h, (e _).2⟩
  case index t x i =>
    have e : ∀ a b, ((indexF P t a b L').pre = (indexF P t a b L).pre) ∧ (indexF P t a b L').val = (indexF P t a b L).val := by
      intro a b
      unfold indexF
      repeat' split
      all_goals first | exact ⟨rfl, rfl⟩
    exact ⟨by rw [(e _ _).1]; exact h, (e _ _).2⟩
  case field t x f =>
    have e : ∀ a, ((fieldF P t a f L').pre = (fieldF P t a f L).pre) ∧ (fieldF P t a f L').val = (fieldF P t a f L).val := by
      intro a
      unfold fieldF
      repeat' split
      all_goals first | exact ⟨rfl, rfl⟩
    exact ⟨by rw [(e _).1]; exact h, (e _).2⟩
  case extract x i =>
    have e : ∀ a, ((extractF a i L').pre = (extractF a i L).pre) ∧ (extractF a i L').val = (extractF a i L).val := by
      intro a
      unfold extractF
      repeat' split
      all_goals first | exact ⟨rfl, rfl⟩
    exact ⟨by rw [(e _).1]; exact h, (e _).2⟩
theorem callF_ext {g : FuncId} {args : List PV} {y : LE} (h : (callF Γ true g args L).pre) : (callF Γ true g args (L ++ [y])).pre ∧ (callF Γ true g args (L ++ [y])).val = (callF Γ true g args L).val := by
  unfold callF at h ⊢
  cases hE : Γ.tab g with
  | none => simp only [hE] at h; exact h.elim
  | ext S => simp only [hE] at h ⊢; exact ⟨h, trivial⟩
  | st T => simp only [hE, cond_true] at h; exact h.elim
  | pure S =>
    simp only [hE] at h ⊢
    unfold pureF at h ⊢
    obtain ⟨p1, p2, p3⟩ := h
    have key : args.map (borrow (L ++ [y])) = args.map (borrow L) := List.map_congr_left fun q hq => (borrow_ext (p2 q hq)).1
    simp only [key]
    refine ⟨⟨p1, fun p hp => (borrow_ext (p2 p hp)).2, p3⟩, ?_⟩
    unfold adopt
    split <;> rfl
theorem same_ext {ρ : Operand → PV} {op : Op} (hc : cls op = .r ∨ cls op = .l) (L : LH) (y : LE) : Same P Γ ρ op L (L ++ [y]) := by
  intro h
  cases op <;> simp only [cls] at hc <;> first | (rcases hc with hc | hc <;> cases hc; done) | skip
  case nilCheck x =>
    simp only [opF] at h ⊢
    split at h
    · rename_i cs hcs; simp only [hcs]; exact ⟨trivial, trivial⟩
    · rename_i id off hcs
      try simp only [hcs]
      split at h
      · rename_i cs hL; simp only [hL, get_ext hL]; exact ⟨trivial, trivial⟩
      · exact h.elim
    · exact h.elim
  case indexAddr t x i =>
    simp only [opF] at h ⊢
    unfold indexAddrF at h ⊢
    split at h
    case h_2 => exact h.elim
    split at h
    · split at h
      · exact ⟨h, rfl⟩
      · split at h
        · rename_i cs hL; simp only [hL, get_ext hL]; exact ⟨h, trivial⟩
        · exact h.elim
      · exact h.elim
    · split at h
      · split at h
        · rename_i cs hL; simp only [hL, get_ext hL]; exact ⟨h, trivial⟩
        · exact h.elim
      · exact ⟨h, rfl⟩
      · exact h.elim
    · exact h.elim
  case fieldAddr t x f =>
    simp only [opF] at h ⊢
    unfold fieldAddrF at h ⊢
    split at h
    case h_2 => exact h.elim
    split at h
    case h_2 => exact h.elim
    rename_i fd hf
    try simp only [hf]
    split at h
    · rename_i T id off hF hx
      try simp only [hF, hx]
      split at h
      · rename_i cs hL; simp only [hL, get_ext hL]; exact ⟨h, trivial⟩
      · exact h.elim
    · rename_i T cs hF hx; simp only [hF, hx]; exact ⟨h, trivial⟩
    · exact h.elim
  case load t x =>
    simp only [opF] at h ⊢
    unfold loadF at h ⊢
    split at h
    case h_2 => exact h.elim
    split at h
    · split at h
      · rename_i cs hL; simp only [hL, get_ext hL]; exact ⟨h, trivial⟩
      · exact h.elim
    · exact ⟨h, rfl⟩
    · exact h.elim
  case convert src dst x =>
    simp only [opF] at h ⊢
    simp only [convG_draw] at h ⊢
    unfold convF at h ⊢
    split at h
    case h_2 => exact h.elim
    split at h
    · exact ⟨h, rfl⟩
    · exact ⟨h, rfl⟩
    · split at h
      · rename_i hE
        simp only at h ⊢
        rw [slc_ext h.1]
        exact ⟨h, rfl⟩
      · exact h.elim
    · split at h
      · exact ⟨h, rfl⟩
      · exact h.elim
    · exact h.elim
  case slice t x lo hi mx =>
    simp only [opF] at h ⊢
    unfold sliceF at h ⊢
    split at h
    · split at h
      · split at h
        · exact ⟨h, rfl⟩
        · exact h.elim
      · split at h
        · exact ⟨h, rfl⟩
        · exact h.elim
      · split at h
        · rename_i l hh cs hl hhi hL; simp only [hl, hhi, hL, get_ext hL]; exact ⟨h, trivial⟩
        · exact h.elim
      · exact h.elim
    · split at h
      · split at h
        · rename_i cs hL; simp only [hL, get_ext hL]; exact ⟨h, trivial⟩
        · exact h.elim
      · exact ⟨h, rfl⟩
      · exact h.elim
    · split at h
      · split at h
        · exact ⟨h, rfl⟩
        · exact h.elim
      · exact h.elim
    · split at h
      · exact ⟨h, rfl⟩
      · exact h.elim
    · exact h.elim
  case call c =>
    simp only [opF] at h ⊢
    split at h
    · rename_i x t e1 e2 e3
      unfold lenF at h ⊢
      split at h
      · split at h
        · exact ⟨h, rfl⟩
        · exact ⟨h, rfl⟩
        · exact ⟨h, rfl⟩
        · split at h
          · rename_i cs hL; simp only [hL, get_ext hL]; exact ⟨h, trivial⟩
          · exact h.elim
        · exact ⟨h, rfl⟩
        · exact h.elim
      · exact h.elim
    · unfold capF at h ⊢
      split at h
      · split at h
        · exact ⟨h, rfl⟩
        · exact ⟨h, rfl⟩
        · exact h.elim
      · exact h.elim
    · unfold minF at h ⊢
      split at h
      · exact ⟨h, rfl⟩
      · exact h.elim
    · unfold maxF at h ⊢
      split at h
      · exact ⟨h, rfl⟩
      · exact h.elim
    · exfalso; simp_all
    · exfalso; simp_all
    · exact callF_ext h
    · exact h.elim
theorem same_set {ρ : Operand → PV} {op : Op} (hc : cls op = .l) {id : Nat} {c c' : List PV} (hid : L[id]? = some (.cells c)) : Same P Γ ρ op L (L.set id (.cells c')) := by
  have get : ∀ (j : Nat) cs, L[j]? = some (.cells cs) → ∃ cs', (L.set id (.cells c'))[j]? = some (.cells cs') := by
    intro j cs hj
    rw [List.getElem?_set]
    split
    · rename_i e; subst e
      have hlt := (List.getElem?_eq_some_iff.1 hid).1
      exact ⟨c', by simp [hlt]⟩
    · exact ⟨cs, hj⟩
  intro h
  cases op <;> simp only [cls] at hc <;> first | (cases hc; done) | skip
  case nilCheck x =>
    simp only [opF] at h ⊢
    split at h
    · rename_i cs hcs; simp only [hcs]; exact ⟨trivial, trivial⟩
    · rename_i id off hcs
      try simp only [hcs]
      split at h
      · rename_i cs hL; obtain ⟨cs', hL'⟩ := get _ _ hL; simp only [hL, hL']; exact ⟨trivial, trivial⟩
      · exact h.elim
    · exact h.elim
  case indexAddr t x i =>
    simp only [opF] at h ⊢
    unfold indexAddrF at h ⊢
    split at h
    case h_2 => exact h.elim
    split at h
    · split at h
      · exact ⟨h, rfl⟩
      · split at h
        · rename_i cs hL; obtain ⟨cs', hL'⟩ := get _ _ hL; simp only [hL, hL']; exact ⟨h, trivial⟩
        · exact h.elim
      · exact h.elim
    · split at h
      · split at h
        · rename_i cs hL; obtain ⟨cs', hL'⟩ := get _ _ hL; simp only [hL, hL']; exact ⟨h, trivial⟩
        · exact h.elim
      · exact ⟨h, rfl⟩
      · exact h.elim
    · exact h.elim
  case fieldAddr t x f =>
    simp only [opF] at h ⊢
    unfold fieldAddrF at h ⊢
    split at h
    case h_2 => exact h.elim
    split at h
    case h_2 => exact h.elim
    rename_i fd hf
    try simp only [hf]
    split at h
    · rename_i T id off hF hx
      try simp only [hF, hx]
      split at h
      · rename_i cs hL; obtain ⟨cs', hL'⟩ := get _ _ hL; simp only [hL, hL']; exact ⟨h, trivial⟩
      · exact h.elim
    · rename_i T cs hF hx; simp only [hF, hx]; exact ⟨h, trivial⟩
    · exact h.elim
  case call c =>
    simp only [opF] at h ⊢
    split at h
    · rename_i x t e1 e2 e3
      unfold lenF at h ⊢
      split at h
      · split at h
        · exact ⟨h, rfl⟩
        · exact ⟨h, rfl⟩
        · exact ⟨h, rfl⟩
        · split at h
          · rename_i cs hL; obtain ⟨cs', hL'⟩ := get _ _ hL; simp only [hL, hL']; exact ⟨h, trivial⟩
          · exact h.elim
        · exact ⟨h, rfl⟩
        · exact h.elim
      · exact h.elim
    · unfold capF at h ⊢
      split at h
      · split at h
        · exact ⟨h, rfl⟩
        · exact ⟨h, rfl⟩
        · exact h.elim
      · exact h.elim
    · exfalso; simp_all
    · exfalso; simp_all
    · exfalso; simp_all
    · exfalso; simp_all
    · exfalso; simp_all
    · exact h.elim
theorem same_load {ρ : Operand → PV} {t : TypeId} {a : Operand} {id : Nat} {x : LE} (hne : (∃ q off, ρ a = .ptr q off ∧ q ≠ id) ∨ ∃ cs, ρ a = .rptr cs) : Same P Γ ρ (.load t a) L (L.set id x) := by
  intro h
  simp only [opF] at h ⊢
  unfold loadF at h ⊢
  split at h
  case h_2 => exact h.elim
  rcases hne with ⟨q, off, hq, hne⟩ | ⟨cs, hq⟩
  · rw [hq] at h ⊢
    simp only at h ⊢
    rw [List.getElem?_set_ne (Ne.symm hne)]
    split at h
    · rename_i cs hL; simp only [hL]; exact ⟨h, trivial⟩
    · exact h.elim
  · rw [hq] at h ⊢
    exact ⟨h, rfl⟩
theorem same_free {ρ : Operand → PV} {op : Op} (h : (∃ t a i, op = .indexAddr t a i ∧ ((∃ cs, ρ a = .rptr cs) ∨ ∃ n cs, ρ a = .ro n cs)) ∨ (∃ t a cs, op = .load t a ∧ ρ a = .rptr cs) ∨ ∃ t a lo hi mx n cs, op = .slice t a lo hi mx ∧ ρ a = .ro n cs) (L L' : LH) : Same P Γ ρ op L L' := by
  intro hp
  rcases h with ⟨t, a, i, rfl, ha⟩ | ⟨t, a, cs, rfl, ha⟩ | ⟨t, a, lo, hi, mx, n, cs, rfl, ha⟩
  · simp only [opF] at hp ⊢
    unfold indexAddrF at hp ⊢
    rcases ha with ⟨cs, ha⟩ | ⟨n, cs, ha⟩ <;> rw [ha] at hp ⊢ <;> (split at hp <;> (try exact hp.elim)) <;> (split at hp <;> (try exact hp.elim)) <;> (split at hp <;> (try exact hp.elim)) <;> simp_all
  · simp only [opF] at hp ⊢
    unfold loadF at hp ⊢
    rw [ha] at hp ⊢
    split at hp
    · exact ⟨hp, rfl⟩
    · exact hp.elim
  · simp only [opF] at hp ⊢
    unfold sliceF at hp ⊢
    rw [ha] at hp ⊢
    (split at hp <;> (try exact hp.elim)) <;> (try (split at hp <;> (try exact hp.elim))) <;> (try (split at hp <;> (try exact hp.elim))) <;> simp_all
theorem stepV0_same {all : List Oper} {o : Oper} {env : Env} {v : PV} {L' : LH} (h : stepV0 P Γ true all o env L v L) (hs : Same P Γ (evalIn env) o.op L L') : stepV0 P Γ true all o env L' v L' := by
  rcases h with ⟨hg, ⟨c, a, b, t, h1, h2, h3, _⟩ | ⟨h1, h2, _⟩⟩ | ⟨hg, h2, _⟩
  · exact .inl ⟨hg, .inl ⟨c, a, b, t, h1, h2, h3, rfl⟩⟩
  · obtain ⟨e1, e2⟩ := hs h1
    exact .inl ⟨hg, .inr ⟨e1, by rw [h2, e2], (opF_draw e1).symm⟩⟩
  · exact .inr ⟨hg, h2, rfl⟩
theorem stepV_same {all : List Oper} {o : Oper} {env : Env} {v : PV} {L' : LH} (h : stepV P Γ true all o env L v L) (hs : ∀ Γ, Same P Γ (evalIn env) o.op L L') : stepV P Γ true all o env L' v L' := by
  obtain ⟨Γ', hΓ', h⟩ := h
  exact ⟨Γ', hΓ', stepV0_same h (hs Γ')⟩
theorem step_a0 {all : List Oper} {o : Oper} {env : Env} {v : PV} {L' : LH} (hc : cls o.op = .a) (h : stepV0 P Γ false all o env L v L') : L' = L ∨ ∃ y, L' = L ++ [y] := by
  rcases h with ⟨_, ⟨_, _, _, _, _, _, _, h⟩ | ⟨h1, _, h2⟩⟩ | ⟨_, _, h⟩
  · exact .inl h
  · right
    rw [h2]
    cases hop : o.op <;> rw [hop] at hc <;> simp only [cls] at hc <;> first | (cases hc; done) | skip
    case alloc t =>
      rw [hop] at h1
      simp only [opF] at h1 ⊢
      unfold allocF at h1 ⊢
      split at h1
      · exact ⟨_, rfl⟩
      · exact h1.elim
    case box t x =>
      rw [hop] at h1
      simp only [opF] at h1 ⊢
      exact ⟨_, rfl⟩
    case makeSlice t l c =>
      rw [hop] at h1
      simp only [opF] at h1 ⊢
      unfold makeF at h1 ⊢
      split at h1
      · split at h1
        · exact ⟨_, rfl⟩
        · exact h1.elim
      · exact h1.elim
    case call c => obtain ⟨callee, args, tys⟩ := c; cases callee <;> simp only at hc <;> first | (cases hc; done) | (rename_i b; cases b <;> simp at hc)
  · exact .inl h
theorem step_a {all : List Oper} {o : Oper} {env : Env} {v : PV} {L' : LH} (hc : cls o.op = .a) (h : stepV P Γ false all o env L v L') : L' = L ∨ ∃ y, L' = L ++ [y] := by
  obtain ⟨_, _, h⟩ := h
  exact step_a0 hc h
theorem step_s0 {all : List Oper} {o : Oper} {env : Env} {v : PV} {L' : LH} (hc : cls o.op = .s) (h : stepV0 P Γ false all o env L v L') :
    L' = L ∨ ∃ id c c', L[id]? = some (.cells c) ∧ L' = L.set id (.cells c') ∧ ∀ t x y, o.op = .store t x y → ∃ off, evalIn env x = .ptr id off := by
  rcases h with ⟨_, ⟨_, _, _, _, _, _, _, h⟩ | ⟨h1, _, h2⟩⟩ | ⟨_, _, h⟩
  · exact .inl h
  · right
    rw [h2]
    cases hop : o.op <;> rw [hop] at hc <;> simp only [cls] at hc <;> first | (cases hc; done) | skip
    case store t x y =>
      rw [hop] at h1
      simp only [opF] at h1 ⊢
      unfold storeF at h1 ⊢
      split at h1
      · split at h1
        · rename_i id off hx
          split at h1
          · rename_i cs hL
            simp only [hx, hL]
            refine ⟨id, cs, _, hL, rfl, fun t' x' y' e => ?_⟩
            cases e
            exact ⟨off, hx⟩
          · exact h1.elim
        · exact h1.elim
      · exact h1.elim
    case call c =>
      rw [hop] at h1
      simp only [opF] at h1 ⊢
      split at h1
      · exfalso; simp_all
      · exfalso; simp_all
      · exfalso; simp_all
      · exfalso; simp_all
      · exfalso; simp_all
      · unfold copyF at h1 ⊢
        split at h1
        · split at h1
          · split at h1
            · rename_i cs hL
              simp only [*]
              exact ⟨_, cs, _, hL, rfl, fun t' x' y' e => by cases e⟩
            · exact h1.elim
          · exact h1.elim
        · exact h1.elim
      · exfalso; simp_all
      · exact h1.elim
  · exact .inl h
theorem step_s {all : List Oper} {o : Oper} {env : Env} {v : PV} {L' : LH} (hc : cls o.op = .s) (h : stepV P Γ false all o env L v L') :
    L' = L ∨ ∃ id c c', L[id]? = some (.cells c) ∧ L' = L.set id (.cells c') ∧ ∀ t x y, o.op = .store t x y → ∃ off, evalIn env x = .ptr id off := by
  obtain ⟨_, _, h⟩ := h
  exact step_s0 hc h
end Go.Ab
namespace Go.Ab
open Go Go.RowKit
set_option linter.unusedVariables false
set_option linter.unusedSimpArgs false
variable {P : Program} {Γ : Con} {X : Nat → Prop} {β : List Base} {w : World} {L : LH} {N B : Nat} {rr : Option Nat}
def ARun (P : Program) (Γ : Con) (all : List Oper) : List Oper → Env → LH → Env → LH → Prop
  | [], env, L, env', L' => env' = env ∧ L' = L
  | o :: r, env, L, env', L' => ∃ v L1, stepV P Γ (md o.op) all o env L v L1 ∧ ARun P Γ all r (putIn env o.dst v) L1 env' L'
theorem arun_vals {all : List Oper} : ∀ {ops : List Oper} {env env' : Env} {L L' : LH}, ARun P Γ all ops env L env' L' →
    ∃ (vs : List PV) (Ls : Nat → LH), vs.length = ops.length ∧ env' = puts env ((ops.map (·.dst)).zip vs) ∧ Ls 0 = L ∧ Ls ops.length = L' ∧
      ∀ (i : Nat) o v, ops[i]? = some o → vs[i]? = some v → stepV P Γ (md o.op) all o (puts env (((ops.map (·.dst)).zip vs).take i)) (Ls i) v (Ls (i + 1))
  | [], env, env', L, L', h => by
    obtain ⟨rfl, rfl⟩ := h
    exact ⟨[], fun _ => L', rfl, rfl, rfl, rfl, fun i o v ho => by simp at ho⟩
  | o :: ops, env, env', L, L', h => by
    obtain ⟨v, L1, hs, hr⟩ := h
    obtain ⟨vs, Ls, h1, h2, h3, h4, h5⟩ := arun_vals hr
    refine ⟨v :: vs, fun i => match i with | 0 => L | i + 1 => Ls i, by simp [h1], by rw [h2]; rfl, rfl, by simpa using h4, fun i q u hq hu => ?_⟩
    cases i with
    | zero => simp at hq hu; subst hq hu; simp only; rw [h3]; exact hs
    | succ i => simp at hq hu; exact h5 i q u hq hu
section any
variable {all : List Oper} {vs : List PV} {env0 env1 : Env} {Q : Exit → Act → World → Prop} {Ls : Nat → LH}
theorem anyOk_spec (h : anyOk all = true) : drawOk all = true ∧ ∀ (i j : Nat) o q, i < j → all[i]? = some o → all[j]? = some q →
    boundTo all i j = true ∨ freeP (cls o.op) (cls q.op) = true ∨ (isLS o.op q.op = true ∧ steady all i (addrOf o.op) = true ∧ steady all j (addrOf q.op) = true) ∨ (isLS o.op q.op = false ∧ (free1 all i o.op = true ∨ free1 all j q.op = true)) := by
  simp only [anyOk, Bool.and_eq_true] at h
  refine ⟨h.1, fun i j o q hij ho hq => ?_⟩
  have := List.all_eq_true.1 h.2 j (by simp; exact (List.getElem?_eq_some_iff.1 hq).1)
  have := List.all_eq_true.1 this i (by simpa using hij)
  simp only [pairOk, ho, hq, Bool.or_eq_true, Bool.and_eq_true, Bool.not_eq_true', or_assoc, and_assoc] at this
  rcases this with h | h | h | h
  · exact .inl h
  · exact .inr (.inl h)
  · exact .inr (.inr (.inl h))
  · exact .inr (.inr (.inr h))
theorem lsOk_spec {env : Env} (h : lsOk all env = true) {i j : Nat} {o q : Oper} (hij : i < j) (ho : all[i]? = some o) (hq : all[j]? = some q) :
    boundTo all i j = true ∨ freeP (cls o.op) (cls q.op) = true ∨ (isLS o.op q.op = true ∧ rowNe (addrV env (addrOf o.op)) (addrV env (addrOf q.op)) = true) ∨ (isLS o.op q.op = false ∧ ((free1 all i o.op = true ∧ free0 env o.op = true) ∨ (free1 all j q.op = true ∧ free0 env q.op = true))) := by
  have := List.all_eq_true.1 h j (by simp; exact (List.getElem?_eq_some_iff.1 hq).1)
  have := List.all_eq_true.1 this i (by simpa using hij)
  simp only [ho, hq, Bool.or_eq_true, Bool.and_eq_true, Bool.not_eq_true', or_assoc] at this
  exact this
theorem steady_lookup (hl : vs.length = all.length) {i t : Nat} (h : steady all i (some t) = true) :
    lookup (puts env0 ((all.map (·.dst)).zip vs)) t = lookup (puts env0 (((all.map (·.dst)).zip vs).take i)) t := by
  have e : puts env0 ((all.map (·.dst)).zip vs) = puts (puts env0 (((all.map (·.dst)).zip vs).take i)) (((all.map (·.dst)).zip vs).drop i) := by
    rw [puts, puts, puts, ← List.foldl_append, List.take_append_drop]
  rw [e]
  refine puts_none fun x hx he => ?_
  obtain ⟨k, hk⟩ := List.getElem?_of_mem hx
  rw [List.getElem?_drop] at hk
  obtain ⟨q, h1, h2, _⟩ := (zip_get hl).1 hk
  have := List.all_eq_true.1 h (i + k) (by simp; exact (List.getElem?_eq_some_iff.1 h1).1)
  rw [h1] at this
  simp only [Bool.or_eq_true, decide_eq_true_eq, bne_iff_ne] at this
  rcases this with h | h
  · omega
  · exact h (by rw [← h2]; exact he)
theorem any_move (hok : anyOk all = true) (hls : lsOk all (puts env0 ((all.map (·.dst)).zip vs)) = true) (hl : vs.length = all.length)
    (hv : ∀ (i : Nat) o v, all[i]? = some o → vs[i]? = some v → stepV P Γ (md o.op) all o (puts env0 (((all.map (·.dst)).zip vs).take i)) (Ls i) v (Ls (i + 1)))
    {i j : Nat} {o q : Oper} {v : PV} (hi : all[i]? = some o) (hvi : vs[i]? = some v) (hj : all[j]? = some q) (hw : isW (cls o.op) = false) (hne : i ≠ j)
    (hun : if i < j then boundTo all i j = false else boundTo all j i = false) :
    (i < j → stepV P Γ true all o (puts env0 (((all.map (·.dst)).zip vs).take i)) (Ls j) v (Ls j) → stepV P Γ true all o (puts env0 (((all.map (·.dst)).zip vs).take i)) (Ls (j + 1)) v (Ls (j + 1))) ∧
    (j < i → stepV P Γ true all o (puts env0 (((all.map (·.dst)).zip vs).take i)) (Ls (j + 1)) v (Ls (j + 1)) → stepV P Γ true all o (puts env0 (((all.map (·.dst)).zip vs).take i)) (Ls j) v (Ls j)) := by
  have hjl : j < vs.length := by rw [hl]; exact (List.getElem?_eq_some_iff.1 hj).1
  have hsj := hv j q vs[j] hj (by simp [hjl])
  by_cases hwj : isW (cls q.op) = true
  case neg =>
    have hmd : md q.op = true := by simp only [md]; cases h : isW (cls q.op) <;> simp_all
    rw [hmd] at hsj
    have e := stepV_draw hsj
    exact ⟨fun _ h => by rw [e]; exact h, fun _ h => by rw [e] at h; exact h⟩
  have hmd : md q.op = false := by simp only [md, hwj, Bool.not_true]
  rw [hmd] at hsj
  by_cases hm : cls o.op = .m
  · exact ⟨fun _ h => stepV_same h (fun _ => same_m hm _ _), fun _ h => stepV_same h (fun _ => same_m hm _ _)⟩
  have set_back : ∀ {id : Nat} {c c' : List PV}, (Ls j)[id]? = some (.cells c) → Ls (j + 1) = (Ls j).set id (.cells c') → (Ls (j + 1))[id]? = some (.cells c') ∧ Ls j = (Ls (j + 1)).set id (.cells c) := by
    intro id c c' h1 h2
    have hlt := (List.getElem?_eq_some_iff.1 h1).1
    refine ⟨by rw [h2]; simp [hlt], ?_⟩
    rw [h2, List.set_set]
    apply List.ext_getElem?
    intro k
    rw [List.getElem?_set]
    split
    · rename_i e; subst e; exact h1
    · rfl
  have exempt : isLS o.op q.op = true → steady all i (addrOf o.op) = true → steady all j (addrOf q.op) = true → (rowNe (addrV (puts env0 ((all.map (·.dst)).zip vs)) (addrOf o.op)) (addrV (puts env0 ((all.map (·.dst)).zip vs)) (addrOf q.op)) = true ∨ rowNe (addrV (puts env0 ((all.map (·.dst)).zip vs)) (addrOf q.op)) (addrV (puts env0 ((all.map (·.dst)).zip vs)) (addrOf o.op)) = true) →
      ∀ a b : LH, (a = Ls j ∧ b = Ls (j + 1) ∨ a = Ls (j + 1) ∧ b = Ls j) → stepV P Γ true all o (puts env0 (((all.map (·.dst)).zip vs).take i)) a v a → stepV P Γ true all o (puts env0 (((all.map (·.dst)).zip vs).take i)) b v b := by
    intro h1 h2 h3 h4 a b hab h
    obtain ⟨t, x, y, ho⟩ : ∃ t x, ∃ y : Nat, o.op = .load t (.tmp x) := by
      cases ho : o.op <;> rw [ho] at h1 hw <;> (try simp only [isLS] at h1) <;> first | (cases h1; done) | skip
      case load t a => cases a <;> first | exact ⟨_, _, 0, rfl⟩ | (simp at h1; done)
      case store => simp [cls, isW] at hw
    obtain ⟨t2, x2, y2, hq⟩ : ∃ t x y, q.op = .store t (.tmp x) y := by
      rw [ho] at h1
      cases hq : q.op <;> rw [hq] at h1 <;> (try simp only [isLS] at h1) <;> first | (cases h1; done) | skip
      case store t a y => cases a <;> first | exact ⟨_, _, _, rfl⟩ | (simp at h1; done)
    rw [ho] at h2 h4
    rw [hq] at h3 h4
    simp only [addrOf, addrV] at h2 h3 h4
    rw [steady_lookup hl h2, steady_lookup hl h3] at h4
    have hss := step_s (by rw [hq]; rfl) hsj
    rcases hss with e | ⟨id, c, c', e1, e2, e3⟩
    · rcases hab with ⟨rfl, rfl⟩ | ⟨rfl, rfl⟩
      · rw [e]; exact h
      · rw [e] at h; exact h
    · obtain ⟨off, e4⟩ := e3 _ _ _ hq
      rw [evalIn] at e4
      have hne' : (∃ q off, evalIn (puts env0 (((all.map (·.dst)).zip vs).take i)) (.tmp x) = .ptr q off ∧ q ≠ id) ∨ ∃ cs, evalIn (puts env0 (((all.map (·.dst)).zip vs).take i)) (.tmp x) = .rptr cs := by
        simp only [evalIn]
        rw [e4] at h4
        cases hx : lookup (puts env0 (((all.map (·.dst)).zip vs).take i)) x <;> rw [hx] at h4 <;> simp only [rowNe, bne_iff_ne, ne_eq, Bool.false_eq_true, or_false, or_self] at h4
        · rename_i r off'
          refine .inl ⟨r, off', rfl, ?_⟩
          rcases h4 with h | h
          · exact h
          · exact fun e => h e.symm
        · exact .inr ⟨_, rfl⟩
      obtain ⟨b1, b2⟩ := set_back e1 e2
      rcases hab with ⟨rfl, rfl⟩ | ⟨rfl, rfl⟩
      · rw [e2]; exact stepV_same h (fun _ => by rw [ho]; exact same_load hne')
      · rw [b2]; exact stepV_same h (fun _ => by rw [ho]; exact same_load hne')
  have ls_comm : ∀ a b : Op, isLS a b = isLS b a := by
    intro a b
    cases a <;> cases b <;> first | rfl | (simp only [isLS]; done) | (rename_i t x t2 x2 y2; cases x <;> cases x2 <;> rfl) | (rename_i t x y t2 x2; cases x <;> cases x2 <;> rfl) | (rename_i t x t2 x2; cases x <;> cases x2 <;> rfl) | (rename_i t x y t2 x2 y2; cases x <;> cases x2 <;> rfl)
  have free_q : free1 all j q.op = true → False := by
    intro h
    cases hq : q.op <;> rw [hq] at h hwj <;> simp [free1, cls, isW] at h hwj
  have free_o : free1 all i o.op = true → free0 (puts env0 ((all.map (·.dst)).zip vs)) o.op = true → ∀ a b : LH, stepV P Γ true all o (puts env0 (((all.map (·.dst)).zip vs).take i)) a v a → stepV P Γ true all o (puts env0 (((all.map (·.dst)).zip vs).take i)) b v b := by
    intro g1 g2 a b h
    refine stepV_same h fun _ => same_free ?_ _ _
    cases ho : o.op <;> rw [ho] at g1 g2 <;> (try simp only [free1] at g1) <;> first | (cases g1; done) | skip
    case indexAddr t a i' =>
      cases a <;> simp only at g1 <;> first | (cases g1; done) | skip
      rename_i t'
      simp only [free0] at g2
      rw [steady_lookup hl g1] at g2
      cases hx : lookup (puts env0 (((all.map (·.dst)).zip vs).take i)) t' <;> rw [hx] at g2 <;> first | (cases g2; done) | skip
      · exact .inl ⟨_, _, _, rfl, .inr ⟨_, _, by simp only [evalIn]; exact hx⟩⟩
      · exact .inl ⟨_, _, _, rfl, .inl ⟨_, by simp only [evalIn]; exact hx⟩⟩
    case load t a =>
      cases a <;> simp only at g1 <;> first | (cases g1; done) | skip
      rename_i t'
      simp only [free0] at g2
      rw [steady_lookup hl g1] at g2
      cases hx : lookup (puts env0 (((all.map (·.dst)).zip vs).take i)) t' <;> rw [hx] at g2 <;> first | (cases g2; done) | skip
      exact .inr (.inl ⟨_, _, _, rfl, by simp only [evalIn]; exact hx⟩)
    case slice t a lo hi mx =>
      cases a <;> simp only at g1 <;> first | (cases g1; done) | skip
      rename_i t'
      simp only [free0] at g2
      rw [steady_lookup hl g1] at g2
      cases hx : lookup (puts env0 (((all.map (·.dst)).zip vs).take i)) t' <;> rw [hx] at g2 <;> first | (cases g2; done) | skip
      exact .inr (.inr ⟨_, _, _, _, _, _, _, rfl, by simp only [evalIn]; exact hx⟩)
  constructor
  · intro hij h
    rw [if_pos hij] at hun
    have hfree : freeP (cls o.op) (cls q.op) = true → stepV P Γ true all o (puts env0 (((all.map (·.dst)).zip vs).take i)) (Ls (j + 1)) v (Ls (j + 1)) := by
      intro hf
      cases hco : cls o.op <;> cases hcq : cls q.op <;> rw [hco, hcq] at hf <;> simp only [freeP, isW, Bool.not_true, Bool.not_false, Bool.and_false, Bool.false_and, Bool.and_true] at hf <;> first | (cases hf; done) | (exact absurd hco hm) | (rw [hcq] at hwj; simp [isW] at hwj; done) | (rw [hco] at hw; simp [isW] at hw; done) | skip
      · rcases step_a hcq hsj with e | ⟨y, e⟩
        · rw [e]; exact h
        · rw [e]; exact stepV_same h (fun _ => same_ext (.inl hco) _ _)
      · rcases step_a hcq hsj with e | ⟨y, e⟩
        · rw [e]; exact h
        · rw [e]; exact stepV_same h (fun _ => same_ext (.inr hco) _ _)
      · rcases step_s hcq hsj with e | ⟨id, c, c', e1, e2, _⟩
        · rw [e]; exact h
        · rw [e2]; exact stepV_same h (fun _ => same_set hco e1)
    rcases lsOk_spec hls hij hi hj with hb | hf | ⟨hs, hn⟩ | ⟨_, hn | hn⟩
    · rw [hun] at hb; cases hb
    · exact hfree hf
    · rcases (anyOk_spec hok).2 i j o q hij hi hj with hb | hf | ⟨h1, h2, h3⟩ | ⟨h1, _⟩
      · rw [hun] at hb; cases hb
      · exact hfree hf
      · exact exempt h1 h2 h3 (.inl hn) _ _ (.inl ⟨rfl, rfl⟩) h
      · rw [hs] at h1; cases h1
    · exact free_o hn.1 hn.2 _ _ h
    · exact (free_q hn.1).elim
  · intro hji h
    rw [if_neg (by omega)] at hun
    have hfree : freeP (cls q.op) (cls o.op) = true → stepV P Γ true all o (puts env0 (((all.map (·.dst)).zip vs).take i)) (Ls j) v (Ls j) := by
      intro hf
      cases hco : cls o.op <;> cases hcq : cls q.op <;> rw [hco, hcq] at hf <;> simp only [freeP, isW, Bool.not_true, Bool.not_false, Bool.and_false, Bool.false_and, Bool.and_true] at hf <;> first | (cases hf; done) | (exact absurd hco hm) | (rw [hcq] at hwj; simp [isW] at hwj; done) | (rw [hco] at hw; simp [isW] at hw; done) | skip
      · rcases step_s hcq hsj with e | ⟨id, c, c', e1, e2, _⟩
        · rw [e] at h; exact h
        · obtain ⟨b1, b2⟩ := set_back e1 e2
          rw [b2]; exact stepV_same h (fun _ => same_set hco b1)
    rcases lsOk_spec hls hji hj hi with hb | hf | ⟨hs, hn⟩ | ⟨_, hn | hn⟩
    · rw [hun] at hb; cases hb
    · exact hfree hf
    · rcases (anyOk_spec hok).2 j i q o hji hj hi with hb | hf | ⟨h1, h2, h3⟩ | ⟨h1, _⟩
      · rw [hun] at hb; cases hb
      · exact hfree hf
      · exact exempt (by rw [ls_comm]; exact h1) h3 h2 (.inr hn) _ _ (.inr ⟨rfl, rfl⟩) h
      · rw [hs] at h1; cases h1
    · exact (free_q hn.1).elim
    · exact free_o hn.1 hn.2 _ _ h
theorem any_at (hok : anyOk all = true) (hls : lsOk all (puts env0 ((all.map (·.dst)).zip vs)) = true) (hl : vs.length = all.length)
    (hv : ∀ (i : Nat) o v, all[i]? = some o → vs[i]? = some v → stepV P Γ (md o.op) all o (puts env0 (((all.map (·.dst)).zip vs).take i)) (Ls i) v (Ls (i + 1)))
    {S : List Nat} {k : Nat} (hk : k ≤ all.length) (hS : ∀ (j : Nat) q, all[j]? = some q → isW (cls q.op) = true → (j ∈ S ↔ j < k))
    (hcl : ∀ j ∈ S, ∀ m, boundTo all m j = true → m ∈ S)
    {i : Nat} {o : Oper} {v : PV} (hi : all[i]? = some o) (hvi : vs[i]? = some v) (hiS : i ∉ S) (hdep : ∀ m, boundTo all m i = true → m ∈ S) (hw : isW (cls o.op) = false) :
    stepV P Γ true all o (puts env0 (((all.map (·.dst)).zip vs).take i)) (Ls k) v (Ls k) := by
  have hil := (List.getElem?_eq_some_iff.1 hi).1
  have hmd : md o.op = true := by simp only [md, hw, Bool.not_false]
  have h0 := hv i o v hi hvi
  rw [hmd] at h0
  have e0 := stepV_draw h0
  rw [e0] at h0
  have free : ∀ j q, all[j]? = some q → i ≠ j → (if i < j then j < k else k ≤ j) → isW (cls q.op) = true → (if i < j then boundTo all i j = false else boundTo all j i = false) := by
    intro j q hj hne hc hwj
    split
    · rename_i hij
      rw [if_pos hij] at hc
      cases hb : boundTo all i j
      · rfl
      · exact absurd (hcl j ((hS j q hj hwj).2 hc) i hb) hiS
    · rename_i hij
      rw [if_neg hij] at hc
      cases hb : boundTo all j i
      · rfl
      · have := (hS j q hj hwj).1 (hdep j hb)
        omega
  -- a step that the rows do not see
  have stay : ∀ j q, all[j]? = some q → isW (cls q.op) = false → Ls (j + 1) = Ls j := by
    intro j q hj hwj
    have hjl : j < vs.length := by rw [hl]; exact (List.getElem?_eq_some_iff.1 hj).1
    have hs := hv j q vs[j] hj (by simp [hjl])
    have hm : md q.op = true := by simp only [md, hwj, Bool.not_false]
    rw [hm] at hs
    exact stepV_draw hs
  by_cases hki : k ≤ i
  · -- backward
    have down : ∀ d, d ≤ i - k → stepV P Γ true all o (puts env0 (((all.map (·.dst)).zip vs).take i)) (Ls (i - d)) v (Ls (i - d)) := by
      intro d
      induction d with
      | zero => intro _; exact h0
      | succ d ih =>
        intro hd
        have hp := ih (by omega)
        have hj : i - (d + 1) < all.length := by omega
        have hget : all[i - (d + 1)]? = some all[i - (d + 1)] := by simp [hj]
        have e1 : i - d = i - (d + 1) + 1 := by omega
        rw [e1] at hp
        cases hwj : isW (cls all[i - (d + 1)].op)
        · rw [stay _ _ hget hwj] at hp; exact hp
        · exact (any_move hok hls hl hv hi hvi hget hw (by omega) (free _ _ hget (by omega) (by rw [if_neg (by omega)]; omega) hwj)).2 (by omega) hp
    have := down (i - k) (Nat.le_refl _)
    rwa [show i - (i - k) = k by omega] at this
  · -- forward
    have up : ∀ d, i + 1 + d ≤ k → stepV P Γ true all o (puts env0 (((all.map (·.dst)).zip vs).take i)) (Ls (i + 1 + d)) v (Ls (i + 1 + d)) := by
      intro d
      induction d with
      | zero => intro _; rw [Nat.add_zero, e0]; exact h0
      | succ d ih =>
        intro hd
        have hp := ih (by omega)
        have hj : i + 1 + d < all.length := by omega
        have hget : all[i + 1 + d]? = some all[i + 1 + d] := by simp [hj]
        rw [show i + 1 + (d + 1) = i + 1 + d + 1 by omega]
        cases hwj : isW (cls all[i + 1 + d].op)
        · rw [stay _ _ hget hwj]; exact hp
        · exact (any_move hok hls hl hv hi hvi hget hw (by omega) (free _ _ hget (by omega) (by rw [if_pos (by omega)]; omega) hwj)).1 (by omega) hp
    have := up (k - (i + 1)) (by omega)
    rwa [show i + 1 + (k - (i + 1)) = k by omega] at this
theorem needs_closed {S : List Nat} (hcl : ∀ j ∈ S, ∀ q, all[j]? = some q → ∀ e ∈ q.after.toList, Region.binds .any e = true → e.on ∈ S) : ∀ j ∈ S, ∀ m, boundTo all m j = true → m ∈ S :=
  fun j hj m hm => dep_in hcl (bound_dep hm) (fun q hq => hcl j hj q hq)
theorem any_sound (hΓ : GammaOk P Γ) (hok : anyOk all = true) (hls : lsOk all (puts env0 ((all.map (·.dst)).zip vs)) = true) (hl : vs.length = all.length) (hd : ∀ o ∈ all, ∀ d, o.dst = some d → d < N)
    (hv : ∀ (i : Nat) o v, all[i]? = some o → vs[i]? = some v → stepV P Γ (md o.op) all o (puts env0 (((all.map (·.dst)).zip vs).take i)) (Ls i) v (Ls (i + 1)))
    (β0 : List Base) (w0 : World) (hQ : ∀ a' w' β', RepA N B X β' w' (puts env0 ((all.map (·.dst)).zip vs)) a' → RepH X β' w' (Ls all.length) → Grow β0 β' w0 w' → Q .normal a' w') :
    ∀ (fuel : Nat) (S : List Nat) (k : Nat) (listed : Array Bool) (β : List Base) (a : Act) (w : World), (List.range all.length).countP (fun i => decide (i ∉ S)) ≤ fuel → listed.size = all.length → (∀ i, i < all.length → listed[i]? = some (decide (i ∈ S))) → (∀ i ∈ S, i < all.length) →
      (∀ j ∈ S, ∀ q, all[j]? = some q → ∀ e ∈ q.after.toList, Region.binds .any e = true → e.on ∈ S) → k ≤ all.length → (∀ (j : Nat) q, all[j]? = some q → isW (cls q.op) = true → (j ∈ S ↔ j < k)) →
      RepA N B X β w (puts env0 (psOf all vs S)) a → RepH X β w (Ls k) → Grow β0 β w0 w → wpAnyIn (FF rr) 0 P .any all.toArray Q fuel listed a w := by
  obtain ⟨hdr, hpairs⟩ := anyOk_spec hok
  have stay : ∀ j q, all[j]? = some q → isW (cls q.op) = false → Ls (j + 1) = Ls j := by
    intro j q hj hwj
    have hjl : j < vs.length := by rw [hl]; exact (List.getElem?_eq_some_iff.1 hj).1
    have hs := hv j q vs[j] hj (by simp [hjl])
    have hm : md q.op = true := by simp only [md, hwj, Bool.not_false]
    rw [hm] at hs
    exact stepV_draw hs
  -- no operation that writes between two places
  have same : ∀ k d, k + d ≤ all.length → (∀ (j : Nat) q, k ≤ j → j < k + d → all[j]? = some q → isW (cls q.op) = false) → Ls (k + d) = Ls k := by
    intro k d
    induction d with
    | zero => intro _ _; rfl
    | succ d ih =>
      intro h1 h2
      have hj : k + d < all.length := by omega
      rw [show k + (d + 1) = k + d + 1 by omega, stay (k + d) all[k + d] (by simp [hj]) (h2 (k + d) all[k + d] (by omega) (by omega) (by simp [hj]))]
      exact ih (by omega) (fun j q h3 h4 h5 => h2 j q h3 (by omega) h5)
  have fin : ∀ (S : List Nat) (k : Nat) (β : List Base) (a : Act) (w : World), (∀ i, i < all.length → i ∈ S) → k ≤ all.length → (∀ (j : Nat) q, all[j]? = some q → isW (cls q.op) = true → (j ∈ S ↔ j < k)) → RepA N B X β w (puts env0 (psOf all vs S)) a → RepH X β w (Ls k) → Grow β0 β w0 w → Q .normal a w := by
    intro S k β a w hall hk hkS hA hH hg
    have e : Ls all.length = Ls k := by
      have := same k (all.length - k) (by omega) (fun j q h1 h2 h3 => by
        cases hw : isW (cls q.op)
        · rfl
        · have := (hkS j q h3 hw).1 (hall j (List.getElem?_eq_some_iff.1 h3).1); omega)
      rwa [show k + (all.length - k) = all.length by omega] at this
    exact hQ a w β ⟨hA.size, hA.defers, fun t => by rw [draw_end hdr hl hall t]; exact hA.slot t, hA.glob⟩ (by rw [e]; exact hH) hg
  intro fuel
  induction fuel with
  | zero =>
    intro S k listed β a w hc hsz hS hSl hcl hk hkS hA hH hg
    have hall : ∀ i, i < all.length → i ∈ S := by
      intro i hi
      have h0 : (List.range all.length).countP (fun i => decide (i ∉ S)) = 0 := Nat.le_zero.1 hc
      rw [List.countP_eq_zero] at h0
      have := h0 i (by simp [hi])
      simpa using this
    refine ⟨?_, fin S k β a w hall hk hkS hA hH hg⟩
    rw [List.eq_nil_iff_forall_not_mem]
    intro i hi
    obtain ⟨o, ho, hn, _⟩ := (mem_ready' hsz hS hSl).1 hi
    exact hn (hall i (List.getElem?_eq_some_iff.1 ho).1)
  | succ fuel ih =>
    intro S k listed β a w hc hsz hS hSl hcl hk hkS hA hH hg
    refine ⟨fun hr => fin S k β a w (ready_nil hdr hsz hS hSl hr) hk hkS hA hH hg, fun i hi => ?_⟩
    obtain ⟨o, ho, hn, hdep⟩ := (mem_ready' hsz hS hSl).1 hi
    have hil := (List.getElem?_eq_some_iff.1 ho).1
    have hiv : i < vs.length := by omega
    have hvi : vs[i]? = some vs[i] := by simp [hiv]
    have hneeds : ∀ m, boundTo all m i = true → m ∈ S := fun m hm => dep_in hcl (bound_dep hm) (fun q hq => by rw [ho] at hq; cases hq; exact hdep)
    have hagree := fun t ht => draw_agree (env0 := env0) hdr hl hcl ho hn hdep (t := t) ht
    have hps : puts env0 (psOf all vs (S ++ [i])) = putIn (puts env0 (psOf all vs S)) o.dst vs[i] := by
      have hz : ((all.map (·.dst)).zip vs)[i]? = some (o.dst, vs[i]) := (zip_get hl).2 ⟨o, ho, rfl, by simp [hiv]⟩
      simp [puts, psOf, List.filterMap_append, hz]
    obtain ⟨k', hk', hkS', hstep⟩ : ∃ k', k' ≤ all.length ∧ (∀ (j : Nat) q, all[j]? = some q → isW (cls q.op) = true → (j ∈ S ++ [i] ↔ j < k')) ∧ stepV P Γ (md o.op) all o (puts env0 (psOf all vs S)) (Ls k) vs[i] (Ls k') := by
      cases hw : isW (cls o.op) with
      | false =>
        refine ⟨k, hk, fun j q hj hwj => ?_, ?_⟩
        · rw [← hkS j q hj hwj]
          simp only [List.mem_append, List.mem_singleton]
          constructor
          · rintro (h | h)
            · exact h
            · subst h; rw [ho] at hj; cases hj; rw [hw] at hwj; cases hwj
          · exact .inl
        · have hmd : md o.op = true := by simp only [md, hw, Bool.not_false]
          rw [hmd]
          exact stepV_congr hagree (any_at hok hls hl hv hk hkS (needs_closed hcl) ho hvi hn hneeds hw)
      | true =>
        have hki : k ≤ i := by
          refine Decidable.byContradiction fun h => ?_
          exact hn ((hkS i o ho hw).2 (by omega))
        have before : ∀ (j : Nat) q, all[j]? = some q → isW (cls q.op) = true → j < i → j ∈ S := by
          intro j q hj hwj hji
          rcases hpairs j i q o hji hj ho with hb | hf | ⟨h1, _⟩ | ⟨_, h1 | h1⟩
          · exact hneeds j hb
          · exfalso
            cases hco : cls o.op <;> cases hcq : cls q.op <;> rw [hco] at hw <;> rw [hcq] at hwj <;> rw [hco, hcq] at hf <;> simp [freeP, isW] at hf hw hwj
          · exfalso
            cases hqo : q.op <;> rw [hqo] at h1 hwj <;> first | (simp [cls, isW] at hwj; done) | (simp [isLS] at h1; done) | skip
            all_goals (cases hoo : o.op <;> rw [hoo] at h1 hw <;> first | (simp [cls, isW] at hw; done) | (simp [isLS] at h1; done) | skip)
          · exfalso
            cases hqo : q.op <;> rw [hqo] at h1 hwj <;> simp [free1, cls, isW] at h1 hwj
          · exfalso
            cases hoo : o.op <;> rw [hoo] at h1 hw <;> simp [free1, cls, isW] at h1 hw
        have e : Ls i = Ls k := by
          have := same k (i - k) (by omega) (fun j q h1 h2 h3 => by
            cases hwj : isW (cls q.op)
            · rfl
            · have := (hkS j q h3 hwj).1 (before j q h3 hwj (by omega)); omega)
          rwa [show k + (i - k) = i by omega] at this
        refine ⟨i + 1, by omega, fun j q hj hwj => ?_, ?_⟩
        · simp only [List.mem_append, List.mem_singleton]
          constructor
          · rintro (h | h)
            · have := (hkS j q hj hwj).1 h; omega
            · omega
          · intro h
            by_cases hji : j = i
            · exact .inr hji
            · exact .inl (before j q hj hwj (by omega))
        · have := hv i o vs[i] ho hvi
          rw [e] at this
          exact stepV_congr hagree this
    have := step_sound (rr := rr) (Q := Q) (K := wpAnyIn (FF rr) 0 P .any all.toArray Q fuel (listed.setIfInBounds i true)) hΓ hstep hA hH (hd o (List.mem_of_getElem? ho)) (fun a1 w1 β1 e1 e2 e3 _ => by
      refine ih (S ++ [i]) k' _ β1 a1 w1 ?_ (by simp [hsz]) (fun k hk => ?_) (fun k hk => ?_) (fun j hj q hq e he hb => ?_) hk' hkS' (by rw [hps]; exact e1) e2 (hg.trans e3)
      · have := countP_lt (p := fun k => decide (k ∉ S)) (q := fun k => decide (k ∉ S ++ [i])) (l := List.range all.length) (fun x _ hx => by simp at hx ⊢; exact hx.1) ⟨i, by simp [hil], by simpa using hn, by simp⟩
        omega
      · by_cases hki : k = i
        · subst hki
          simp [hsz, hk]
        · rw [Array.getElem?_setIfInBounds_ne (Ne.symm hki), hS k hk]
          simp [hki]
      · rcases List.mem_append.1 hk with h | h
        · exact hSl k h
        · simp at h; omega
      · rcases List.mem_append.1 hj with h | h
        · exact List.mem_append_left _ (hcl j h q hq e he hb)
        · simp at h; subst h
          rw [ho] at hq; cases hq
          exact List.mem_append_left _ (hdep e he hb))
    unfold wpOpIn
    have hget : all.toArray[i]? = some o := by simpa using ho
    rw [hget]
    simp only
    split
    · rename_i hw; rw [if_pos hw] at this; exact this
    · rename_i hw; rw [if_neg hw] at this; exact ⟨fun f _ => FF_fn rr f, this⟩
theorem region_any (hΓ : GammaOk P Γ) (hm : P.follows .mixedOrders = true) {id : Nat} {env env' : Env} {L' : LH} {a : Act} (hok : anyOk all = true) (hd : ∀ o ∈ all, ∀ d, o.dst = some d → d < N)
    (h : ARun P Γ all all env L env' L') (hls : lsOk all env' = true) (hA : RepA N B X β w env a) (hH : RepH X β w L)
    (hQ : ∀ a' w' β', RepA N B X β' w' env' a' → RepH X β' w' L' → Grow β β' w w' → Q .normal a' w') : (Code.region id all.toArray true).wpIn (FF rr) 0 P Q a w := by
  obtain ⟨vs, Ls, h2, rfl, h3, rfl, h4⟩ := arun_vals h
  subst h3
  refine wpIn_region_any hm ?_
  have hH' : RepH X β { w with drawn := w.drawn + 1 } (Ls 0) := hH.same grow_drew_id (fun _ _ => rfl)
  have := any_sound (rr := rr) (Q := Q) (N := N) (X := X) hΓ hok hls h2 hd h4 β w hQ all.length [] 0 (Array.replicate all.length false) β a { w with drawn := w.drawn + 1 }
    (Nat.le_trans List.countP_le_length (by simp)) (by simp) (fun i hi => by simp [hi]) (by simp) (by simp) (Nat.zero_le _) (by simp) (hA.grow grow_drew_id) hH' grow_drew_id
  simpa using this
end any
end Go.Ab
