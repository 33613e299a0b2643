import Derived.Test.YtaoabfnjibhgdaaDoorM8
import Derived.Laws.Externs
import Derived.Shelf.Spec.BitsCarry
namespace Go.Ab
open Go Go.RowKit
set_option linter.unusedVariables false
set_option linter.unusedSimpArgs false
variable {P : Program} {Γ : Con} {L : LH} {env : Env}
abbrev XK := Exit → Scr → Env → LH → Prop
def xIt (body : Scr → Env → LH → XK → Prop) : Nat → Scr → Env → LH → XK → Prop
  | 0, _, _, _, _ => False
  | n + 1, s, env, L, k => body s env L fun e s env L => match e with
    | .normal => xIt body n s env L k
    | e => k e s env L
def xRegion (P : Program) (pin : Nat) (ops : List Oper) (s : Scr) (env : Env) (L : LH) (k : Scr → Env → LH → Prop) : Prop :=
  match strip s with
  | .g p q m s1 s2 => match (!Nat.beq p q && Nat.blt p ops.length && Nat.blt q ops.length && anyOk (ver1 p q ops) && anyOk (ver2 p q ops)) with
    | true => xAny P (ver1 p q ops) (ver1 p q ops) s1 env L fun s env1 L1 => match lsOk (ver1 p q ops) env1 with
      | true => xAny P (ver2 p q ops) (ver2 p q ops) s2 env L (fun _ env2 L2 => match lsOk (ver2 p q ops) env2 with
          | true => xW (wk pin m env2 L2 env1 L1)
          | false => False) ∧ k s env1 L1
      | false => False
    | false => False
  | s => match anyOk ops with
    | true => xAny P ops ops s env L fun s env L => match lsOk ops env with
      | true => k s env L
      | false => False
    | false => False
def xKeep (s : Scr) (env : Env) (k : Scr → Env → Prop) : Prop :=
  match strip s with
  | .h keep s => fK env keep fun env => k s env
  | _ => k s env
def xC (P : Program) (pin : Nat) : Code → Scr → Env → LH → XK → Prop
  | .skip, s, env, L, k => k .normal s env L
  | .region _ ops draw, s, env, L, k => xKeep s env fun s env => match draw with
    | false => xSeq P ops.toList ops.toList s env L (k .normal)
    | true => xRegion P pin ops.toList s env L (k .normal)
  | .seq a b, s, env, L, k => match strip s with
    | .s (n + 1) I inv s1 s2 => xC P pin a (.s n I inv s1 s2) env L fun e s env L => match e with
      | .normal => xC P pin b s env L k
      | e => k e s env L
    | .s 0 I inv s1 s2 => (xC P pin a s1 env L fun e s env L => match e with
      | .normal => match strip s with
        | .a m => ∃ x, inv x ∧ xW (wk pin m env L (I x).1 (I x).2)
        | _ => False
      | e => k e s env L) ∧ ∀ x, inv x → xC P pin b (s2 x) (I x).1 (I x).2 k
    | s => xC P pin a s env L fun e s env L => match e with
      | .normal => xC P pin b s env L k
      | e => k e s env L
  | .cond c a b, s, env, L, k => match evalIn env c with
    | .lit (.bool t) => match strip s with
      | .f s1 s2 => (t = true → xC P pin a s1 env L k) ∧ (t = false → xC P pin b s2 env L k)
      | .n s => match t with
        | true => xC P pin a s env L k
        | false => xC P pin b s env L k
      | s => match t with
        | true => xC P pin a s env L k
        | false => xC P pin b s env L k
    | _ => False
  | .block id c, s, env, L, k => xC P pin c s env L fun e s env L => match e with
    | .exit id' => match Nat.beq id' id with
      | true => k .normal s env L
      | false => k (.exit id') s env L
    | e => k e s env L
  | .scope c, s, env, L, k => xC P pin c s env L fun e s env L => match e with
    | .goto _ => False
    | e => k e s env L
  | .label _, s, env, L, k => k .normal s env L
  | .exit id, s, env, L, k => k (.exit id) s env L
  | .ret, s, env, L, k => k .ret s env L
  | .loop c, s, env, L, k => match strip s with
    | .l I inv μ m b => (∃ x, inv x ∧ xW (wk pin m env L (I x).1 (I x).2)) ∧ ∀ x, inv x → xC P pin c (b x) (I x).1 (I x).2 fun e s env L => match e with
      | .normal => match strip s with
        | .a m => ∃ y, inv y ∧ μ y < μ x ∧ xW (wk pin m env L (I y).1 (I y).2)
        | _ => False
      | e => k e s env L
    | .u n s => xIt (fun s env L k => xC P pin c s env L k) n s env L k
    | _ => False
  | _, _, _, _, _ => False
def Ex' (P : Program) (Γ : Con) (c : Code) (env : Env) (L : LH) (k : XK) : Prop := Ex P Γ c env L fun e env' L' => ∃ s, k e s env' L'
theorem xRegion_ok {pin : Nat} {id : Nat} {ops : Array Oper} {s : Scr} {k : Scr → Env → LH → Prop} (hp : Γ.pin = pin) (h : xRegion P pin ops.toList s env L k) :
    ∃ env' L', Run P Γ (.region id ops true) env L .normal env' L' ∧ ∃ s', k s' env' L' := by
  unfold xRegion at h
  split at h
  · rename_i p q m s1 s2 _
    split at h
    · rename_i hc
      simp only [Bool.and_eq_true, Bool.not_eq_true'] at hc
      obtain ⟨env1, L1, h1, s', h2⟩ := xAny_ok (Γ := Γ) h
      split at h2
      · rename_i hl1
        obtain ⟨h3, h4⟩ := h2
        obtain ⟨env2, L2, h5, _, h6⟩ := xAny_ok (Γ := Γ) h3
        split at h6
        · rename_i hl2
          have hne : p ≠ q := by
            rintro rfl
            rw [Nat.beq_refl] at hc
            exact absurd hc.1.1.1.1 (by simp)
          exact ⟨env1, L1, .regionTwo hne (Nat.le_of_ble_eq_true hc.1.1.1.2) (Nat.le_of_ble_eq_true hc.1.1.2) h1 hc.1.2 hl1 h5 hc.2 hl2 (by rw [hp]; exact xW_ok h6), s', h4⟩
        · exact h6.elim
      · exact h2.elim
    · exact h.elim
  · split at h
    · rename_i hd
      obtain ⟨env', L', h1, s', h2⟩ := xAny_ok (Γ := Γ) h
      split at h2
      · rename_i hl
        exact ⟨env', L', .regionAny h1 hd hl, s', h2⟩
      · exact h2.elim
    · exact h.elim
theorem xC_ok {pin : Nat} (hp : Γ.pin = pin) : ∀ (c : Code) {s : Scr} {env : Env} {L : LH} {k : XK}, xC P pin c s env L k → Ex' P Γ c env L k := by
  intro c
  induction c with
  | skip => intro s env L k h; exact ⟨_, _, _, .skip, s, h⟩
  | region id ops draw =>
    intro s env L k h
    have go : ∀ {s : Scr} {env : Env}, (match (generalizing := false) draw with
        | false => xSeq P ops.toList ops.toList s env L (k .normal)
        | true => xRegion P pin ops.toList s env L (k .normal)) → Ex' P Γ (.region id ops draw) env L k := by
      intro s env h
      cases draw with
      | false =>
        obtain ⟨env', L', h1, h2⟩ := xSeq_ok (Γ := Γ) h
        exact ⟨_, _, _, .region h1, h2⟩
      | true =>
        obtain ⟨env', L', h1, h2⟩ := xRegion_ok (id := id) hp h
        exact ⟨_, _, _, h1, h2⟩
    simp only [xC] at h
    unfold xKeep at h
    split at h
    · rename_i keep s _
      rw [fK_eq] at h
      obtain ⟨e, env', L', h1, h2⟩ := go h
      exact ⟨e, env', L', .less (lookup_narrow keep env) h1, h2⟩
    · exact go h
  | seq a b iha ihb =>
    intro s env L k h
    simp only [xC] at h
    have plain : ∀ {s : Scr}, (xC P pin a s env L fun e s env L => match e with
        | .normal => xC P pin b s env L k
        | e => k e s env L) → Ex' P Γ (.seq a b) env L k := by
      intro s h
      obtain ⟨e, env1, L1, h1, s', h2⟩ := iha h
      cases e with
      | normal =>
        obtain ⟨e, env2, L2, h3, h4⟩ := ihb h2
        exact ⟨_, _, _, .seq h1 h3, h4⟩
      | exit id => exact ⟨_, _, _, .seqOut h1 (by simp), s', h2⟩
      | goto l => exact ⟨_, _, _, .seqOut h1 (by simp), s', h2⟩
      | ret => exact ⟨_, _, _, .seqOut h1 (by simp), s', h2⟩
      | panic ch => exact ⟨_, _, _, .seqOut h1 (by simp), s', h2⟩
      | outgrown => exact ⟨_, _, _, .seqOut h1 (by simp), s', h2⟩
    split at h
    · exact plain h
    · rename_i ι I inv s1 s2 _
      obtain ⟨ha, hb⟩ := h
      obtain ⟨e, env1, L1, h1, s', h2⟩ := iha ha
      cases e with
      | normal =>
        simp only at h2
        split at h2
        · rename_i m _
          obtain ⟨x, hx, hw⟩ := h2
          obtain ⟨e, env2, L2, h3, h4⟩ := ihb (hb x hx)
          exact ⟨_, _, _, .seq h1 (.weak (by rw [hp]; exact xW_ok hw) h3), h4⟩
        · exact h2.elim
      | exit id => exact ⟨_, _, _, .seqOut h1 (by simp), s', h2⟩
      | goto l => exact ⟨_, _, _, .seqOut h1 (by simp), s', h2⟩
      | ret => exact ⟨_, _, _, .seqOut h1 (by simp), s', h2⟩
      | panic ch => exact ⟨_, _, _, .seqOut h1 (by simp), s', h2⟩
      | outgrown => exact ⟨_, _, _, .seqOut h1 (by simp), s', h2⟩
    · exact plain h
  | cond c a b iha ihb =>
    intro s env L k h
    simp only [xC] at h
    split at h
    · rename_i t hc
      have goT : ∀ {s : Scr}, t = true → xC P pin a s env L k → Ex' P Γ (.cond c a b) env L k := by
        rintro s rfl h
        obtain ⟨e, env1, L1, h1, h2⟩ := iha h
        exact ⟨_, _, _, .cond hc h1, h2⟩
      have goF : ∀ {s : Scr}, t = false → xC P pin b s env L k → Ex' P Γ (.cond c a b) env L k := by
        rintro s rfl h
        obtain ⟨e, env1, L1, h1, h2⟩ := ihb h
        exact ⟨_, _, _, .cond hc h1, h2⟩
      split at h
      · cases t with
        | true => exact goT rfl (h.1 rfl)
        | false => exact goF rfl (h.2 rfl)
      · cases t with
        | true => exact goT rfl h
        | false => exact goF rfl h
      · cases t with
        | true => exact goT rfl h
        | false => exact goF rfl h
    · exact h.elim
  | block id c ih =>
    intro s env L k h
    obtain ⟨e, env1, L1, h1, s', h2⟩ := ih (by simpa only [xC] using h)
    cases e with
    | exit id' =>
      simp only at h2
      split at h2
      · rename_i hb
        have := Nat.eq_of_beq_eq_true hb
        subst this
        exact ⟨_, _, _, .blockOut h1, s', h2⟩
      · rename_i hb
        have hne : id' ≠ id := by rintro rfl; rw [Nat.beq_refl] at hb; cases hb
        exact ⟨_, _, _, .block h1 (by simpa using hne), s', h2⟩
    | normal => exact ⟨_, _, _, .block h1 (by simp), s', h2⟩
    | goto l => exact ⟨_, _, _, .block h1 (by simp), s', h2⟩
    | ret => exact ⟨_, _, _, .block h1 (by simp), s', h2⟩
    | panic ch => exact ⟨_, _, _, .block h1 (by simp), s', h2⟩
    | outgrown => exact ⟨_, _, _, .block h1 (by simp), s', h2⟩
  | scope c ih =>
    intro s env L k h
    obtain ⟨e, env1, L1, h1, s', h2⟩ := ih (by simpa only [xC] using h)
    cases e with
    | goto l => exact h2.elim
    | normal => exact ⟨_, _, _, .scope h1 (by simp), s', h2⟩
    | exit id => exact ⟨_, _, _, .scope h1 (by simp), s', h2⟩
    | ret => exact ⟨_, _, _, .scope h1 (by simp), s', h2⟩
    | panic ch => exact ⟨_, _, _, .scope h1 (by simp), s', h2⟩
    | outgrown => exact ⟨_, _, _, .scope h1 (by simp), s', h2⟩
  | label l => intro s env L k h; exact ⟨_, _, _, .label, s, h⟩
  | exit id => intro s env L k h; exact ⟨_, _, _, .exit, s, h⟩
  | ret => intro s env L k h; exact ⟨_, _, _, .ret, s, h⟩
  | loop c ih =>
    intro s env L k h
    simp only [xC] at h
    split at h
    · rename_i ι I inv μ m b _
      obtain ⟨⟨x0, hx0, hw⟩, hs⟩ := h
      refine Ex.weak m (by rw [hp]; exact xW_ok hw) (Ex.loop (ι := {x : ι // inv x}) (fun x => I x.1) (fun x => μ x.1) (fun x => ?_) ⟨x0, hx0⟩)
      obtain ⟨x, hx⟩ := x
      obtain ⟨e, env1, L1, h1, s', h2⟩ := ih (hs x hx)
      refine ⟨e, env1, L1, h1, ?_⟩
      cases e with
      | normal =>
        simp only at h2
        split at h2
        · rename_i m' _
          obtain ⟨y, hy, hlt, hw⟩ := h2
          exact ⟨⟨y, hy⟩, m', hlt, by rw [hp]; exact xW_ok hw⟩
        · exact h2.elim
      | exit id => exact ⟨s', h2⟩
      | goto l => exact ⟨s', h2⟩
      | ret => exact ⟨s', h2⟩
      | panic ch => exact ⟨s', h2⟩
      | outgrown => exact ⟨s', h2⟩
    · rename_i n s _
      have key : ∀ n {s : Scr} {env : Env} {L : LH}, xIt (fun s env L k => xC P pin c s env L k) n s env L k → Ex' P Γ (.loop c) env L k := by
        intro n
        induction n with
        | zero => intro s env L h; exact h.elim
        | succ n ihn =>
          intro s env L h
          obtain ⟨e, env1, L1, h1, s', h2⟩ := ih h
          cases e with
          | normal =>
            obtain ⟨e, env2, L2, h3, h4⟩ := ihn h2
            exact ⟨_, _, _, .loop h1 h3, h4⟩
          | exit id => exact ⟨_, _, _, .loopOut h1 (by simp), s', h2⟩
          | goto l => exact ⟨_, _, _, .loopOut h1 (by simp), s', h2⟩
          | ret => exact ⟨_, _, _, .loopOut h1 (by simp), s', h2⟩
          | panic ch => exact ⟨_, _, _, .loopOut h1 (by simp), s', h2⟩
          | outgrown => exact ⟨_, _, _, .loopOut h1 (by simp), s', h2⟩
      exact key n h
    · exact h.elim
  | _ => intro s env L k h; exact h.elim
def resB (P : Program) (env : Env) (L : LH) : List ResultVar → Bool
  | [] => true
  | .tmp _ :: r => resB P env L r
  | .cell a t :: r => loadB P t (lookup env a) L && resB P env L r
theorem resB_ok : ∀ {l : List ResultVar}, resB P env L l = true → resAll P env L l
  | [], _ => trivial
  | .tmp _ :: r, h => ⟨trivial, resB_ok h⟩
  | .cell a t :: r, h => by
    simp only [resB, Bool.and_eq_true] at h
    exact ⟨loadB_pre h.1, resB_ok h.2⟩
def resV (P : Program) (env : Env) (L : LH) : List ResultVar → PV
  | [r] => (resOne P env L r).2
  | rs => .tup (rs.map fun r => (resOne P env L r).2)
theorem resV_eq {fn : Func} : resPV P fn env L = resV P env L fn.results.toList := by
  unfold resPV resV
  generalize fn.results.toList = l
  rcases l with _ | ⟨r, _ | ⟨s, rs⟩⟩ <;> rfl
def xShut (L : LH) (p r : PV) : Prop :=
  match p with
  | .own id off n sz => match L[id]? with
    | some (.cells row) => off + n * sz ≤ row.length ∧ closedL ((row.drop off).take (n * sz)) = true ∧ PV.new n sz ((row.drop off).take (n * sz)) = r
    | _ => False
  | .tup (q :: rs) => match q with
    | .own id off n sz => match L[id]? with
      | some (.cells row) => off + n * sz ≤ row.length ∧ closedL ((row.drop off).take (n * sz)) = true ∧ closedL rs = true ∧ PV.tup (.new n sz ((row.drop off).take (n * sz)) :: rs) = r
      | _ => False
    | .lit (.slice none 0 0) => match r with
      | .tup (.new 0 sz [] :: rs') => PV.tup rs = .tup rs' ∧ closedL rs = true
      | r => PV.tup (q :: rs) = r ∧ closed r = true
    | q => PV.tup (q :: rs) = r ∧ closed r = true
  | .lit (.slice none 0 0) => match r with
    | .new 0 sz [] => True
    | r => p = r ∧ closed r = true
  | p => p = r ∧ closed r = true
theorem shutOk_closed {p r : PV} (h : p = r ∧ closed r = true) : ShutOk L p r := by
  obtain ⟨rfl, hc⟩ := h
  refine .inl ?_
  unfold shut
  split
  · simp [closed] at hc
  · simp [closed, closedL] at hc
  · rename_i rs _
    have : closedL rs = true := by simpa [closed] using hc
    exact ⟨.inl this, by simp only [clr, this, cond_true]⟩
  · exact ⟨.inl hc, by simp only [borrow, hc, cond_true]⟩
theorem xShut_ok {p r : PV} (h : xShut L p r) : ShutOk L p r := by
  unfold xShut at h
  split at h
  · rename_i id off n sz
    split at h
    · rename_i row hL
      obtain ⟨h1, h2, rfl⟩ := h
      have hs : slc L (.own id off n sz) = (off + n * sz ≤ row.length, n, (row.drop off).take (n * sz)) := by simp only [slc, hL]
      refine .inl ?_
      simp only [shut, hs]
      exact ⟨⟨h1, .inl h2⟩, by simp only [clr, h2, cond_true]⟩
    · exact h.elim
  · rename_i q rs
    split at h
    · rename_i id off n sz
      split at h
      · rename_i row hL
        obtain ⟨h1, h2, h3, rfl⟩ := h
        have hs : slc L (.own id off n sz) = (off + n * sz ≤ row.length, n, (row.drop off).take (n * sz)) := by simp only [slc, hL]
        refine .inl ?_
        simp only [shut, hs]
        exact ⟨⟨h1, .inl h2, .inl h3⟩, by simp only [clr, h2, h3, cond_true]⟩
      · exact h.elim
    · split at h
      · rename_i sz rs'
        obtain ⟨h1, h2⟩ := h
        cases h1
        exact .inr (.inr ⟨rs, sz, rfl, h2, rfl⟩)
      · exact shutOk_closed h
    · exact shutOk_closed h
  · split at h
    · rename_i sz
      exact .inr (.inl ⟨rfl, sz, rfl⟩)
    · exact shutOk_closed h
  · exact shutOk_closed h
def xFin (P : Program) (fn : Func) (r : PV) : XK := fun e _ env L => match e with
  | .normal => match resB P env L fn.results.toList with
    | true => fV (resV P env L fn.results.toList) fun p => xShut L p r
    | false => False
  | .ret => match resB P env L fn.results.toList with
    | true => fV (resV P env L fn.results.toList) fun p => xShut L p r
    | false => False
  | _ => False
theorem xFin_ok {fn : Func} {r : PV} {e : Exit} {s : Scr} (h : xFin P fn r e s env L) : Fin P fn r e env L := by
  unfold xFin at h
  split at h
  · split at h
    · rename_i hb
      rw [fV_eq] at h
      exact ⟨.inl rfl, resB_ok hb, by rw [resV_eq]; exact xShut_ok h⟩
    · exact h.elim
  · split at h
    · rename_i hb
      rw [fV_eq] at h
      exact ⟨.inr rfl, resB_ok hb, by rw [resV_eq]; exact xShut_ok h⟩
    · exact h.elim
  · exact h.elim
def bodyOf (f : Func) : Code := match f.body with
  | some c => c
  | none => .skip
def fnB (fn : Func) (n : Nat) : Bool := fn.body.isSome && fits fn.ntmps (bodyOf fn) && Nat.ble n fn.ntmps
theorem callR_of {P : Program} (hm : P.follows .mixedOrders = true) {f : FuncId} {fn : Func} {args : List PV} {r : PV} (hf : P.funcs[f]? = some fn)
    (hcall : ∀ (vs : Array Value) (w : World), (callFunc f vs).run P w = .ok (.enter f vs) w) (hb : fnB fn args.length = true)
    (s : Scr) {F : Prop} (hx : F = xC P 0 (bodyOf fn) s (entry 0 args) [] (xFin P fn r)) (h : F) : CallR P f args r := by
  simp only [fnB, Bool.and_eq_true] at hb
  obtain ⟨⟨h1, h2⟩, h3⟩ := hb
  have hbody : fn.body = some (bodyOf fn) := by
    unfold bodyOf
    cases hfb : fn.body with
    | none => rw [hfb] at h1; cases h1
    | some c => rfl
  refine pureOk_of noCon_ok hm hf hbody h2 hcall fun a ha => ?_
  obtain rfl : a = args := ha
  refine ⟨Nat.le_of_ble_eq_true h3, ?_⟩
  rw [hx] at h
  exact Ex.mono (xC_ok (Γ := noCon) rfl _ h) fun e env L ⟨s, hk⟩ => xFin_ok hk
def rowsW : LH → LH → Bool × List Prop
  | _, [] => (true, [])
  | .cells c :: L, .cells c' :: L' => both (true, [c = c', closedL c' = true]) (rowsW L L')
  | .dead :: L, .dead :: L' => rowsW L L'
  | _, _ => (false, [])
theorem rowsW_ok : ∀ {L' L : LH}, (rowsW L L').1 = true → (∀ a ∈ (rowsW L L').2, a) → L.take L'.length = L' ∧ ∀ cs, LE.cells cs ∈ L' → closedL cs = true
  | [], L, _, _ => ⟨by simp, by simp⟩
  | .cells c' :: L', [], h, _ => by cases h
  | .dead :: L', [], h, _ => by cases h
  | .cells c' :: L', .cells c :: L, h, hp => by
    obtain ⟨h1, h2⟩ := both_ok h hp
    obtain ⟨e1, e2⟩ := rowsW_ok h2.1 h2.2
    have a1 := h1.2 (c = c') (by simp)
    have a2 := h1.2 (closedL c' = true) (by simp)
    refine ⟨by simp [e1, a1], fun cs hcs => ?_⟩
    rcases List.mem_cons.1 hcs with hcs | hcs
    · cases hcs; exact a2
    · exact e2 cs hcs
  | .dead :: L', .dead :: L, h, hp => by
    obtain ⟨e1, e2⟩ := rowsW_ok (L' := L') (L := L) h hp
    refine ⟨by simp [e1], fun cs hcs => ?_⟩
    rcases List.mem_cons.1 hcs with hcs | hcs
    · cases hcs
    · exact e2 cs hcs
  | .cells _ :: _, .dead :: _, h, _ => by cases h
  | .dead :: _, .cells _ :: _, h, _ => by cases h
def xFinS (P : Program) (fn : Func) (r : PV) (L' : LH) : XK := fun e _ env L => match e with
  | .normal => match resB P env L fn.results.toList with
    | true => fV (resV P env L fn.results.toList) fun p => p = r ∧ closed r = true ∧ xW (rowsW L L')
    | false => False
  | .ret => match resB P env L fn.results.toList with
    | true => fV (resV P env L fn.results.toList) fun p => p = r ∧ closed r = true ∧ xW (rowsW L L')
    | false => False
  | _ => False
theorem xFinS_ok {fn : Func} {r : PV} {L' : LH} {e : Exit} {s : Scr} (h : xFinS P fn r L' e s env L) : FinS P fn r L' e env L := by
  have go : ∀ {b : Bool}, resB P env L fn.results.toList = b → (e = .normal ∨ e = .ret) → (match (generalizing := false) b with
      | true => fV (resV P env L fn.results.toList) fun p => p = r ∧ closed r = true ∧ xW (rowsW L L')
      | false => False) → FinS P fn r L' e env L := by
    intro b hb he h
    cases b with
    | true =>
      rw [fV_eq] at h
      obtain ⟨h1, h2, h3⟩ := h
      unfold xW at h3
      split at h3
      · rename_i hw
        obtain ⟨e1, e2⟩ := rowsW_ok hw (conj1_eq h3)
        exact ⟨he, resB_ok hb, by rw [resV_eq]; exact h1, h2, e1, e2⟩
      · exact h3.elim
    | false => exact h.elim
  unfold xFinS at h
  split at h
  · exact go rfl (.inl rfl) h
  · exact go rfl (.inr rfl) h
  · exact h.elim
theorem callS_of {P : Program} (hm : P.follows .mixedOrders = true) {f : FuncId} {fn : Func} {args : List PV} {r : PV} {L L' : LH} (hf : P.funcs[f]? = some fn)
    (hcall : ∀ (vs : Array Value) (w : World), (callFunc f vs).run P w = .ok (.enter f vs) w) (hb : (fnB fn args.length && Nat.beq L'.length L.length) = true)
    (s : Scr) {F : Prop} (hx : F = xC P L.length (bodyOf fn) s (entry 0 args) L (xFinS P fn r L')) (h : F) : CallS P f args L r L' := by
  simp only [fnB, Bool.and_eq_true] at hb
  obtain ⟨⟨⟨h1, h2⟩, h3⟩, h4⟩ := hb
  have hbody : fn.body = some (bodyOf fn) := by
    unfold bodyOf
    cases hfb : fn.body with
    | none => rw [hfb] at h1; cases h1
    | some c => rfl
  refine stOk_of (tab := noCon.tab) noCon_ok hm hf hbody h2 hcall fun a K ha => ?_
  obtain ⟨rfl, rfl⟩ : a = args ∧ K = L := ha
  refine ⟨Nat.le_of_ble_eq_true h3, Nat.eq_of_beq_eq_true h4, ?_⟩
  rw [hx] at h
  exact Ex.mono (xC_ok (Γ := ⟨noCon.tab, K.length⟩) rfl _ h) fun e env L ⟨s, hk⟩ => xFinS_ok hk
def strsC : Code → List ByteArray
  | .region _ ops _ => ops.toList.flatMap fun o => o.op.operands.toList.flatMap fun
    | .const (.string b) => [b]
    | _ => []
  | .seq a b => strsC a ++ strsC b
  | .cond _ a b => strsC a ++ strsC b
  | .block _ c => strsC c
  | .loop c => strsC c
  | .scope c => strsC c
  | _ => []
def sAt (fn : Func) (k : Nat) : ByteArray := (strsC (bodyOf fn)).getD k ByteArray.empty
end Go.Ab
namespace Go.Ab
open Go Go.RowKit
set_option linter.unusedVariables false
set_option linter.unusedSimpArgs false
def ul (n : Nat) : PV := .lit (.int .u64 ((n % 18446744073709551616 : Nat) : Int))
def ln (n : Nat) : PV := .lit (.int .i64 (n : Int))
def li (z : Int) : PV := .lit (.int .i64 z)
def lB (b : Bool) : PV := .lit (.bool b)
def bn (op : BinOp) (x y : PV) : PV :=
  match x, y with
  | .lit (.int k a), .lit (.int _ b) => match op with
    | .shl => .lit (.int k (k.wrap (a * 2 ^ (min b.toNat k.bits))))
    | .shr => .lit (.int k (a.fdiv (2 ^ (min b.toNat k.bits))))
    | op => .lit (binInt op k a b).2
  | _, _ => .any
def un (op : UnOp) (x : PV) : PV := (unF op x []).val
def cn (k : IntKind) (x : PV) : PV :=
  match x with
  | .lit (.int _ n) => .lit (.int k (k.wrap n))
  | _ => .any
theorem wrap_u (z : Int) : IntKind.u64.wrap z = z % 18446744073709551616 := by simp [IntKind.wrap, IntKind.bits, IntKind.signed]
theorem wrap_i {n : Int} (h1 : -9223372036854775808 ≤ n) (h2 : n ≤ 9223372036854775807) : IntKind.i64.wrap n = n := by rw [IntKind.wrap_i64]; omega
theorem wrap_b (z : Int) : IntKind.u8.wrap z = z % 256 := by simp [IntKind.wrap, IntKind.bits, IntKind.signed]
theorem ul_eq {a b : Nat} (h : a % 18446744073709551616 = b % 18446744073709551616) : ul a = ul b := by simp only [ul, h]
theorem ln_eq {a b : Nat} (h : a = b) : ln a = ln b := by rw [h]
theorem lB_eq {p q : Prop} [Decidable p] [Decidable q] (h : p ↔ q) : lB (decide p) = lB (decide q) := by simp only [decide_eq_decide.2 h]
theorem lit_u {a : Nat} {z : Int} (h : z = ((a % 18446744073709551616 : Nat) : Int)) : PV.lit (.int .u64 z) = ul a := by rw [ul, h]
section
variable (a b : Nat)
theorem add_u : bn .add (ul a) (ul b) = ul (a + b) := by
  show PV.lit (.int .u64 (IntKind.u64.wrap _)) = _
  rw [wrap_u]; exact lit_u (by omega)
theorem sub_u : bn .sub (ul a) (ul b) = ul (a + (18446744073709551616 - b % 18446744073709551616)) := by
  show PV.lit (.int .u64 (IntKind.u64.wrap _)) = _
  rw [wrap_u]; exact lit_u (by omega)
theorem mul_u : bn .mul (ul a) (ul b) = ul (a * b) := by
  show PV.lit (.int .u64 (IntKind.u64.wrap _)) = _
  rw [wrap_u]
  refine lit_u ?_
  rw [← Int.natCast_mul, show (18446744073709551616 : Int) = ((18446744073709551616 : Nat) : Int) from rfl, ← Int.natCast_emod, ← Nat.mul_mod]
theorem bits_n (a : Nat) : BitVec.ofInt 64 ((a % 18446744073709551616 : Nat) : Int) = BitVec.ofNat 64 a := by
  rw [BitVec.ofInt_natCast]
  apply BitVec.eq_of_toNat_eq
  simp
theorem and_u : bn .and (ul a) (ul b) = ul (a &&& b) := by
  show PV.lit (.int .u64 (IntKind.u64.wrap ((BitVec.ofInt 64 _ &&& BitVec.ofInt 64 _).toNat : Int))) = _
  rw [bits_n, bits_n, wrap_u]
  refine lit_u ?_
  rw [BitVec.toNat_and, BitVec.toNat_ofNat, BitVec.toNat_ofNat, ← Nat.and_mod_two_pow]
  omega
theorem or_u : bn .or (ul a) (ul b) = ul (a ||| b) := by
  show PV.lit (.int .u64 (IntKind.u64.wrap ((BitVec.ofInt 64 _ ||| BitVec.ofInt 64 _).toNat : Int))) = _
  rw [bits_n, bits_n, wrap_u]
  refine lit_u ?_
  rw [BitVec.toNat_or, BitVec.toNat_ofNat, BitVec.toNat_ofNat, ← Nat.or_mod_two_pow]
  omega
theorem xor_u : bn .xor (ul a) (ul b) = ul (a ^^^ b) := by
  show PV.lit (.int .u64 (IntKind.u64.wrap ((BitVec.ofInt 64 _ ^^^ BitVec.ofInt 64 _).toNat : Int))) = _
  rw [bits_n, bits_n, wrap_u]
  refine lit_u ?_
  rw [BitVec.toNat_xor, BitVec.toNat_ofNat, BitVec.toNat_ofNat, ← Nat.xor_mod_two_pow]
  omega
theorem sh_u (k : Nat) : a % 18446744073709551616 * 2 ^ (min k 64) % 18446744073709551616 = a * 2 ^ k % 18446744073709551616 := by
  by_cases h : k ≤ 64
  · rw [Nat.min_eq_left h, Nat.mod_mul_mod]
  · obtain ⟨j, rfl⟩ : ∃ j, k = 64 + j := ⟨k - 64, by omega⟩
    rw [Nat.min_eq_right (by omega), Nat.pow_add, show (2 : Nat) ^ 64 = 18446744073709551616 from rfl, ← Nat.mul_assoc, Nat.mul_mod_left, Nat.mul_right_comm, Nat.mul_mod_left]
theorem shl_u (k : Nat) : bn .shl (ul a) (ln k) = ul (a * 2 ^ k) := by
  show PV.lit (.int .u64 (IntKind.u64.wrap (((a % 18446744073709551616 : Nat) : Int) * 2 ^ (min k 64)))) = _
  rw [wrap_u]
  refine lit_u ?_
  rw [← sh_u a k]
  simp only [Int.natCast_emod, Int.natCast_mul, Int.natCast_pow]
  rfl
theorem shr_u {k : Nat} (h : k ≤ 64) : bn .shr (ul a) (ln k) = ul (a % 18446744073709551616 / 2 ^ k) := by
  show PV.lit (.int .u64 (Int.fdiv ((a % 18446744073709551616 : Nat) : Int) (2 ^ (min k 64)))) = _
  refine lit_u ?_
  have e : Int.fdiv ((a % 18446744073709551616 : Nat) : Int) (2 ^ (min k 64)) = ((a % 18446744073709551616 / 2 ^ k : Nat) : Int) := by
    rw [Nat.min_eq_left h, Int.fdiv_eq_ediv_of_nonneg _ (by exact_mod_cast Nat.zero_le _)]
    rw [Int.natCast_ediv, Int.natCast_pow]
    rfl
  rw [e, Nat.mod_eq_of_lt (Nat.lt_of_le_of_lt (Nat.div_le_self _ _) (Nat.mod_lt _ (by decide)))]
variable {a b}
theorem lss_u (ha : a < 18446744073709551616) (hb : b < 18446744073709551616) : bn .lss (ul a) (ul b) = lB (decide (a < b)) := by
  show lB (decide (((a % 18446744073709551616 : Nat) : Int) < ((b % 18446744073709551616 : Nat) : Int))) = _
  exact lB_eq (by omega)
theorem gtr_u (ha : a < 18446744073709551616) (hb : b < 18446744073709551616) : bn .gtr (ul a) (ul b) = lB (decide (b < a)) := by
  show lB (decide (((a % 18446744073709551616 : Nat) : Int) > ((b % 18446744073709551616 : Nat) : Int))) = _
  exact lB_eq (by omega)
theorem geq_u (ha : a < 18446744073709551616) (hb : b < 18446744073709551616) : bn .geq (ul a) (ul b) = lB (decide (b ≤ a)) := by
  show lB (decide (((a % 18446744073709551616 : Nat) : Int) ≥ ((b % 18446744073709551616 : Nat) : Int))) = _
  exact lB_eq (by omega)
theorem eql_u (ha : a < 18446744073709551616) (hb : b < 18446744073709551616) : bn .eql (ul a) (ul b) = lB (decide (a = b)) := by
  show lB (((a % 18446744073709551616 : Nat) : Int) == ((b % 18446744073709551616 : Nat) : Int)) = _
  rw [show ((((a % 18446744073709551616 : Nat) : Int) == ((b % 18446744073709551616 : Nat) : Int)) = decide (((a % 18446744073709551616 : Nat) : Int) = ((b % 18446744073709551616 : Nat) : Int))) from rfl]
  exact lB_eq (by omega)
theorem neq_u (ha : a < 18446744073709551616) (hb : b < 18446744073709551616) : bn .neq (ul a) (ul b) = lB (decide (a ≠ b)) := by
  show lB (!(((a % 18446744073709551616 : Nat) : Int) == ((b % 18446744073709551616 : Nat) : Int))) = _
  rw [show ((((a % 18446744073709551616 : Nat) : Int) == ((b % 18446744073709551616 : Nat) : Int)) = decide (((a % 18446744073709551616 : Nat) : Int) = ((b % 18446744073709551616 : Nat) : Int))) from rfl, ← decide_not]
  exact lB_eq (by omega)
theorem add_n (h : a + b < 9223372036854775808) : bn .add (ln a) (ln b) = ln (a + b) := by
  show PV.lit (.int .i64 (IntKind.i64.wrap _)) = _
  rw [wrap_i (by omega) (by omega)]; rfl
theorem sub_n (h : b ≤ a) (h2 : a < 9223372036854775808) : bn .sub (ln a) (ln b) = ln (a - b) := by
  show PV.lit (.int .i64 (IntKind.i64.wrap _)) = PV.lit (.int .i64 ((a - b : Nat) : Int))
  rw [wrap_i (by omega) (by omega)]
  congr 2; omega
theorem sub_z (h1 : a < 9223372036854775808) (h2 : b < 9223372036854775808) : bn .sub (ln a) (ln b) = li ((a : Int) - (b : Int)) := by
  show PV.lit (.int .i64 (IntKind.i64.wrap _)) = _
  rw [wrap_i (by omega) (by omega)]; rfl
theorem mul_n (h : a * b < 9223372036854775808) : bn .mul (ln a) (ln b) = ln (a * b) := by
  show PV.lit (.int .i64 (IntKind.i64.wrap _)) = _
  rw [← Int.natCast_mul, wrap_i (by omega) (by omega)]; rfl
theorem quo_n (h : a < 9223372036854775808) : bn .quo (ln a) (ln b) = ln (a / b) := by
  show PV.lit (.int .i64 (IntKind.i64.wrap ((a : Int).tdiv (b : Int)))) = PV.lit (.int .i64 ((a / b : Nat) : Int))
  have h3 := Nat.div_le_self a b
  rw [← Int.ofNat_tdiv]
  generalize a / b = q at *
  rw [wrap_i (by omega) (by omega)]
theorem rem_n : bn .rem (ln a) (ln b) = ln (a % b) := by
  show PV.lit (.int .i64 ((a : Int).tmod (b : Int))) = PV.lit (.int .i64 ((a % b : Nat) : Int))
  rw [← Int.ofNat_tmod]
theorem cv_iu : cn .u64 (ln a) = ul a := by
  show PV.lit (.int .u64 (IntKind.u64.wrap _)) = _
  rw [wrap_u]; exact lit_u (by omega)
theorem cv_ub : cn .u8 (ul a) = bv (UInt8.ofNat a) := by
  show PV.lit (.int .u8 (IntKind.u8.wrap ((a % 18446744073709551616 : Nat) : Int))) = PV.lit (.int .u8 (((UInt8.ofNat a).toNat : Nat) : Int))
  rw [wrap_b]
  congr 2
  simp only [UInt8.toNat_ofNat']
  omega
theorem cv_bu (x : UInt8) : cn .u64 (bv x) = ul x.toNat := by
  show PV.lit (.int .u64 (IntKind.u64.wrap (x.toNat : Int))) = _
  rw [wrap_u]; exact lit_u (by omega)
theorem cv_bi (x : UInt8) : cn .i64 (bv x) = ln x.toNat := by
  have := x.toNat_lt
  show PV.lit (.int .i64 (IntKind.i64.wrap (x.toNat : Int))) = _
  rw [wrap_i (by omega) (by omega)]; rfl
end
def ltI (a b : Nat) : Bool := decide ((a : Int) < (b : Int))
def leI (a b : Nat) : Bool := decide ((a : Int) ≤ (b : Int))
def eqI (a b : Nat) : Bool := ((a : Int) == (b : Int))
theorem ltI_t {a b : Nat} (h : ltI a b = true) : a < b := by have := of_decide_eq_true h; omega
theorem ltI_f {a b : Nat} (h : ltI a b = false) : b ≤ a := by have := of_decide_eq_false h; omega
theorem leI_t {a b : Nat} (h : leI a b = true) : a ≤ b := by have := of_decide_eq_true h; omega
theorem leI_f {a b : Nat} (h : leI a b = false) : b < a := by have := of_decide_eq_false h; omega
theorem eqI_t {a b : Nat} (h : eqI a b = true) : a = b := by have := of_decide_eq_true (show decide ((a : Int) = (b : Int)) = true from h); omega
theorem eqI_f {a b : Nat} (h : eqI a b = false) : a ≠ b := by have := of_decide_eq_false (show decide ((a : Int) = (b : Int)) = false from h); omega
end Go.Ab
namespace Go.Ab
open Go Go.RowKit
theorem and1_u {a : Nat} : bn .and (ul a) (ul 1) = ul (a % 2) := by
  rw [and_u, Nat.and_one_is_mod]
theorem shr_v {a k : Nat} (ha : a < 18446744073709551616) (h : k ≤ 64) : bn .shr (ul a) (ln k) = ul (a / 2 ^ k) := by
  rw [shr_u a h, Nat.mod_eq_of_lt ha]
theorem sub_v {a b : Nat} (h : b ≤ a) : bn .sub (ul a) (ul b) = ul (a - b) := by
  rw [sub_u]; exact ul_eq (by omega)
theorem uln {k : Nat} (h : k < 18446744073709551616) (op : BinOp) (a : Nat) (ho : op = .shl ∨ op = .shr) : bn op (ul a) (ul k) = bn op (ul a) (ln k) := by
  rcases ho with rfl | rfl
  · show PV.lit (.int .u64 (IntKind.u64.wrap (((a % 18446744073709551616 : Nat) : Int) * 2 ^ (min (((k % 18446744073709551616 : Nat) : Int)).toNat 64)))) = PV.lit (.int .u64 (IntKind.u64.wrap (((a % 18446744073709551616 : Nat) : Int) * 2 ^ (min ((k : Int)).toNat 64))))
    rw [Nat.mod_eq_of_lt h]
  · show PV.lit (.int .u64 (Int.fdiv ((a % 18446744073709551616 : Nat) : Int) (2 ^ (min (((k % 18446744073709551616 : Nat) : Int)).toNat 64)))) = PV.lit (.int .u64 (Int.fdiv ((a % 18446744073709551616 : Nat) : Int) (2 ^ (min ((k : Int)).toNat 64))))
    rw [Nat.mod_eq_of_lt h]
theorem shl_uu (a : Nat) {k : Nat} (h : k < 18446744073709551616) : bn .shl (ul a) (ul k) = ul (a * 2 ^ k) := by rw [uln h _ _ (.inl rfl), shl_u]
theorem shr_uu (a : Nat) {k : Nat} (h : k ≤ 64) : bn .shr (ul a) (ul k) = ul (a % 18446744073709551616 / 2 ^ k) := by rw [uln (by omega) _ _ (.inr rfl), shr_u a h]
theorem shr_vu {a k : Nat} (ha : a < 18446744073709551616) (h : k ≤ 64) : bn .shr (ul a) (ul k) = ul (a / 2 ^ k) := by rw [uln (by omega) _ _ (.inr rfl), shr_v ha h]
def wd (n : Nat) : Nat → Nat
  | 0 => n
  | i + 1 => n / 2 ^ (64 * (i + 1))
theorem wd_eq (n i : Nat) : wd n i = n / 2 ^ (64 * i) := by cases i <;> simp [wd]
def cl (k n : Nat) : List PV := (List.range k).map fun i => ul (wd n i)
def u4 (n : Nat) : PV := .agg (cl 4 n)
theorem cl4 (n : Nat) : cl 4 n = [ul n, ul (n / 18446744073709551616), ul (n / 340282366920938463463374607431768211456), ul (n / 6277101735386680763835789423207666416102355444464034512896)] := by
  simp [cl, wd, List.range, List.range.loop]
theorem closedL_cl (k n : Nat) : closedL (cl k n) = true := by
  rw [closedL_iff]; intro p hp; simp only [cl, List.mem_map] at hp; obtain ⟨i, _, rfl⟩ := hp; rfl
theorem closed_u4 (n : Nat) : closed (u4 n) = true := closedL_cl 4 n
theorem cl4_eq {a b : Nat} (h : a % 115792089237316195423570985008687907853269984665640564039457584007913129639936 = b % 115792089237316195423570985008687907853269984665640564039457584007913129639936) : cl 4 a = cl 4 b := by
  rw [cl4, cl4]
  congr 1
  · exact ul_eq (by omega)
  congr 1
  · exact ul_eq (by omega)
  congr 1
  · exact ul_eq (by omega)
  congr 1
  · exact ul_eq (by omega)
theorem u4_eq {a b : Nat} (h : a % 115792089237316195423570985008687907853269984665640564039457584007913129639936 = b % 115792089237316195423570985008687907853269984665640564039457584007913129639936) : u4 a = u4 b := by
  rw [u4, u4, cl4_eq h]
theorem getD_cl {i : Nat} (h : i < 4) (n : Nat) (d : PV) : (cl 4 n).getD i d = ul (n / 2 ^ (64 * i)) := by
  simp [cl, wd_eq, List.getD_eq_getElem?_getD, h]
theorem four_eq {a b c d n : Nat} (h : n % 115792089237316195423570985008687907853269984665640564039457584007913129639936 = a % 18446744073709551616 + (b % 18446744073709551616) * 18446744073709551616 + (c % 18446744073709551616) * 340282366920938463463374607431768211456 + (d % 18446744073709551616) * 6277101735386680763835789423207666416102355444464034512896) :
    [ul a, ul b, ul c, ul d] = cl 4 n := by
  rw [cl4]
  congr 1
  · exact ul_eq (by omega)
  congr 1
  · exact ul_eq (by omega)
  congr 1
  · exact ul_eq (by omega)
  congr 1
  · exact ul_eq (by omega)
theorem agg4_eq {a b c d n : Nat} (h : n % 115792089237316195423570985008687907853269984665640564039457584007913129639936 = a % 18446744073709551616 + (b % 18446744073709551616) * 18446744073709551616 + (c % 18446744073709551616) * 340282366920938463463374607431768211456 + (d % 18446744073709551616) * 6277101735386680763835789423207666416102355444464034512896) :
    PV.agg [ul a, ul b, ul c, ul d] = u4 n := congrArg PV.agg (four_eq h)
theorem intsOf_ul (a : Nat) (l : List PV) : intsOf (ul a :: l) = ((a % 18446744073709551616 : Nat) : Int) :: intsOf l := rfl
theorem eql_4 {a b : Nat} (ha : a < 115792089237316195423570985008687907853269984665640564039457584007913129639936) (hb : b < 115792089237316195423570985008687907853269984665640564039457584007913129639936) : lB (intsOf (cl 4 a) == intsOf (cl 4 b)) = lB (decide (a = b)) := by
  congr 1
  rw [cl4, cl4]
  simp only [intsOf_ul, show intsOf [] = [] from rfl]
  rw [Bool.eq_iff_iff, beq_iff_eq, decide_eq_true_iff]
  simp only [List.cons.injEq, Int.ofNat_inj, and_true]
  omega
theorem neq_4 {a b : Nat} (ha : a < 115792089237316195423570985008687907853269984665640564039457584007913129639936) (hb : b < 115792089237316195423570985008687907853269984665640564039457584007913129639936) : lB (!(intsOf (cl 4 a) == intsOf (cl 4 b))) = lB (decide (a ≠ b)) := by
  have h := eql_4 ha hb
  simp only [lB, PV.lit.injEq, Value.bool.injEq] at h ⊢
  rw [h, ← decide_not]
theorem tup2 {a a' b b' : PV} (h1 : a = a') (h2 : b = b') : PV.tup [a, b] = PV.tup [a', b'] := by rw [h1, h2]
end Go.Ab
namespace Go.Ab
open Go Go.RowKit
theorem andm_u {a m : Nat} (k : Nat) (h : m + 1 = 2 ^ k) : bn .and (ul a) (ul m) = ul (a % 2 ^ k) := by
  rw [and_u, show m = 2 ^ k - 1 by omega, Nat.and_two_pow_sub_one_eq_mod]
theorem ul_mod (n : Nat) : ul (n % 18446744073709551616) = ul n := ul_eq (Nat.mod_mod _ _)
theorem u4_mod (n : Nat) : u4 (n % 115792089237316195423570985008687907853269984665640564039457584007913129639936) = u4 n := u4_eq (Nat.mod_mod _ _)
end Go.Ab
namespace Go.Ab
open Go Go.RowKit
section
variable (a b : Nat)
theorem lss_w : bn .lss (ul a) (ul b) = lB (decide (a % 18446744073709551616 < b % 18446744073709551616)) := by
  rw [← ul_mod a, ← ul_mod b]; exact lss_u (Nat.mod_lt _ (by decide)) (Nat.mod_lt _ (by decide))
theorem gtr_w : bn .gtr (ul a) (ul b) = lB (decide (b % 18446744073709551616 < a % 18446744073709551616)) := by
  rw [← ul_mod a, ← ul_mod b]; exact gtr_u (Nat.mod_lt _ (by decide)) (Nat.mod_lt _ (by decide))
theorem eql_w : bn .eql (ul a) (ul b) = lB (decide (a % 18446744073709551616 = b % 18446744073709551616)) := by
  rw [← ul_mod a, ← ul_mod b]; exact eql_u (Nat.mod_lt _ (by decide)) (Nat.mod_lt _ (by decide))
theorem neq_w : bn .neq (ul a) (ul b) = lB (decide (a % 18446744073709551616 ≠ b % 18446744073709551616)) := by
  rw [← ul_mod a, ← ul_mod b]; exact neq_u (Nat.mod_lt _ (by decide)) (Nat.mod_lt _ (by decide))
end
end Go.Ab
namespace Go.Ab
open Go Go.RowKit
theorem sub_li {a b : Int} (h1 : -9223372036854775808 ≤ a - b) (h2 : a - b ≤ 9223372036854775807) : bn .sub (li a) (li b) = li (a - b) := by
  show PV.lit (.int .i64 (IntKind.i64.wrap _)) = _
  rw [wrap_i h1 h2]; rfl
theorem add_li {a b : Int} (h1 : -9223372036854775808 ≤ a + b) (h2 : a + b ≤ 9223372036854775807) : bn .add (li a) (li b) = li (a + b) := by
  show PV.lit (.int .i64 (IntKind.i64.wrap _)) = _
  rw [wrap_i h1 h2]; rfl
theorem or1_u {a b : Nat} (h : b ≤ 1) : bn .or (ul (a * 2)) (ul b) = ul (a * 2 + b) := by
  rw [or_u]
  have := Nat.two_pow_add_eq_or_of_lt (i := 1) (b := b) (by omega) a
  rw [Nat.pow_one, Nat.mul_comm 2 a] at this
  rw [this]
theorem closedL_set {l : List PV} {i : Nat} {v : PV} (h : closedL l = true) (hv : closed v = true) : closedL (l.set i v) = true := by
  rw [closedL_iff] at h ⊢
  intro p hp
  rcases List.mem_or_eq_of_mem_set hp with hp | rfl
  · exact h p hp
  · exact hv
end Go.Ab
namespace Go.Ab
theorem lB_t {p : Prop} [Decidable p] (h : p) : lB true = lB (decide p) := by rw [decide_eq_true h]
theorem lB_f {p : Prop} [Decidable p] (h : ¬ p) : lB false = lB (decide p) := by rw [decide_eq_false h]
end Go.Ab
namespace Go.Ab
open Go Go.RowKit
set_option linter.unusedVariables false
set_option linter.unusedSimpArgs false
variable {P : Program}
theorem add64_e {f : FuncId} {fn : Func} {x y c s d : Nat} (hf : P.funcs[f]? = some fn) (hname : (fn.name == "runtime.NumGoroutine") = false) (hb : fn.body.isNone = true) (hn : Extern.findNext fn = none) (he : Extern.find fn = some add64Entry)
    (hc : c ≤ 1) (hs : s % 18446744073709551616 = (x + y + c) % 18446744073709551616) (hd : d = (x % 18446744073709551616 + y % 18446744073709551616 + c) / 18446744073709551616) : CallE P f [ul x, ul y, ul c] (.tup [ul s, ul d]) where
  run := by
    intro args hS X β w vs hr
    obtain rfl : args = [ul x, ul y, ul c] := hS
    simp only [RepL, RepV, ul] at hr
    obtain ⟨_, _, rfl, rfl, _, _, rfl, rfl, _, _, rfl, rfl, rfl⟩ := hr
    refine ⟨_, by rw [run_callFunc_extern hf hname hb hn he, run_add64 _ _ _ (by omega) (by omega) (by omega) (by omega)]; rfl, ?_⟩
    simp only [RepV, RepL, ul]
    refine ⟨_, rfl, _, _, rfl, ?_, _, _, rfl, ?_, rfl⟩
    · congr 1; omega
    · congr 1; omega
theorem sub64_e {f : FuncId} {fn : Func} {x y c s d : Nat} (hf : P.funcs[f]? = some fn) (hname : (fn.name == "runtime.NumGoroutine") = false) (hb : fn.body.isNone = true) (hn : Extern.findNext fn = none) (he : Extern.find fn = some Go.Proofs.sub64Entry)
    (hc : c ≤ 1) (hs : s % 18446744073709551616 = (x % 18446744073709551616 + 36893488147419103232 - y % 18446744073709551616 - c) % 18446744073709551616) (hd : d = (18446744073709551615 + y % 18446744073709551616 + c - x % 18446744073709551616) / 18446744073709551616) : CallE P f [ul x, ul y, ul c] (.tup [ul s, ul d]) where
  run := by
    intro args hS X β w vs hr
    obtain rfl : args = [ul x, ul y, ul c] := hS
    simp only [RepL, RepV, ul] at hr
    obtain ⟨_, _, rfl, rfl, _, _, rfl, rfl, _, _, rfl, rfl, rfl⟩ := hr
    refine ⟨_, by rw [run_callFunc_extern hf hname hb hn he, Go.Proofs.run_sub64 _ _ _ (by omega)]; rfl, ?_⟩
    simp only [RepV, RepL, ul]
    refine ⟨_, rfl, _, _, rfl, ?_, _, _, rfl, ?_, rfl⟩
    · congr 1; omega
    · congr 1; split <;> omega
end Go.Ab
