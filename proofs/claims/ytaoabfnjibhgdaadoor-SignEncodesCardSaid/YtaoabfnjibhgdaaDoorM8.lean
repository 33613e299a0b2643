import Derived.Test.YtaoabfnjibhgdaaDoorM7
import Derived.KernelRfl
namespace Go.Ab
open Go Go.RowKit
set_option linter.unusedVariables false
set_option linter.unusedSimpArgs false
variable {P : Program} {L : LH} {env : Env}
def CallR (P : Program) (g : FuncId) (args : List PV) (r : PV) : Prop := PureOk P g fun a => (a = args, r)
def CallE (P : Program) (g : FuncId) (args : List PV) (r : PV) : Prop := ExtOk P g fun a => (a = args, r)
def CallS (P : Program) (g : FuncId) (args : List PV) (L : LH) (r : PV) (L' : LH) : Prop := StOk P g fun a K => ⟨a = args ∧ K = L, r, L'⟩
def noCon : Con := ⟨fun _ => .none, 0⟩
theorem noCon_ok : GammaOk P noCon := fun _ => trivial
def oneCon (g : FuncId) (e : Entry) : Con := ⟨fun f => bif f == g then e else .none, 0⟩
theorem oneCon_ok {g : FuncId} {e : Entry} (h : EntryOk P g e) : GammaOk P (oneCon g e) := fun f => by
  unfold oneCon
  cases hb : (f == g) with
  | true => have := eq_of_beq hb; subst this; simpa [hb] using h
  | false => simp only [hb, cond_false]; exact trivial
theorem oneCon_tab {g : FuncId} {e : Entry} : (oneCon g e).tab g = e := by simp [oneCon]
def partB (T : TI) (cs : List PV) (off : Nat) : Bool := bif isAggD T.und then Nat.ble (off + T.size) cs.length else Nat.blt off cs.length
theorem partB_pre {T : TI} {cs : List PV} {off : Nat} (h : partB T cs off = true) : (partF T cs off).1 := by
  unfold partB at h
  unfold partF
  cases hd : isAggD T.und with
  | true => rw [hd] at h; simpa using h
  | false => rw [hd] at h; simp only [cond_false] at h; exact Nat.le_of_ble_eq_true h
def loadB (P : Program) (t : TypeId) (a : PV) (L : LH) : Bool :=
  match tyOf P t with
  | some T => match a with
    | .ptr id off => match L[id]? with
      | some (.cells cs) => partB T cs off
      | _ => false
    | .rptr cs => partB T cs 0
    | _ => false
  | none => false
theorem loadB_pre {t : TypeId} {a : PV} (h : loadB P t a L = true) : (loadF P t a L).pre := by
  unfold loadB at h
  unfold loadF
  split at h
  · split at h
    · split at h
      · simp only [*]; exact partB_pre h
      · cases h
    · simp only [*]; exact partB_pre h
    · cases h
  · cases h
def storeB (P : Program) (draw : Bool) (t : TypeId) (a v : PV) (L : LH) : Bool :=
  match tyOf P t, draw with
  | some T, false => match a with
    | .ptr id off => match L[id]? with
      | some (.cells cs) => Nat.beq v.cells.length T.size && Nat.ble (off + T.size) cs.length && v.cells.all PV.one
      | _ => false
    | _ => false
  | _, _ => false
theorem storeB_pre {draw : Bool} {t : TypeId} {a v : PV} (h : storeB P draw t a v L = true) : (storeF P draw t a v L).pre := by
  unfold storeB at h
  unfold storeF
  split at h
  · split at h
    · split at h
      · simp only [*]
        simp only [Bool.and_eq_true] at h
        exact ⟨Nat.eq_of_beq_eq_true h.1.1, Nat.le_of_ble_eq_true h.1.2, h.2⟩
      · cases h
    · cases h
  · cases h
def allocB (P : Program) (draw : Bool) (t : TypeId) : Bool :=
  match tyOf P t, draw with
  | some T, false => T.zero.cells.toList.all Value.oneCell'
  | _, _ => false
theorem allocB_pre {draw : Bool} {t : TypeId} (h : allocB P draw t = true) : (allocF P draw t L).pre := by
  unfold allocB at h
  unfold allocF
  split at h
  · simp only [*]; exact List.all_eq_true.1 h
  · cases h
def boxB (draw : Bool) (v : PV) : Bool := bif draw then false else v.cells.all PV.one
theorem boxB_pre {draw : Bool} {v : PV} (h : boxB draw v = true) : (boxF draw v L).pre := by
  unfold boxB at h
  cases draw
  · exact h
  · cases h
def indexAddrB (P : Program) (t : TypeId) (x i : PV) (L : LH) : Bool :=
  match i with
  | .lit (.int _ i) => match tyOf P t with
    | some ⟨.slice e, _, _, _⟩ => match tyOf P e, x with
      | some E, .ro n cs => decide (0 ≤ i) && decide (i < n) && Nat.beq cs.length (n * E.size) && Nat.blt 0 E.size
      | some E, .own id off n sz => match L[id]? with
        | some (.cells _) => decide (0 ≤ i) && decide (i < n) && Nat.beq sz E.size
        | _ => false
      | _, _ => false
    | some ⟨.array n e, _, _, _⟩ => match tyOf P e, x with
      | some E, .ptr id off => match L[id]? with
        | some (.cells _) => decide (0 ≤ i) && decide (i < n)
        | _ => false
      | some E, .rptr cs => decide (0 ≤ i) && decide (i < n) && Nat.beq cs.length (n * E.size) && Nat.blt 0 E.size
      | _, _ => false
    | _ => false
  | _ => false
theorem indexAddrB_pre {t : TypeId} {x i : PV} (h : indexAddrB P t x i L = true) : (indexAddrF P t x i L).pre := by
  unfold indexAddrB at h
  unfold indexAddrF
  split at h
  · split at h
    · split at h
      · simp only [*]
        simp only [Bool.and_eq_true, decide_eq_true_eq] at h
        exact ⟨h.1.1.1, h.1.1.2, Nat.eq_of_beq_eq_true h.1.2, Nat.le_of_ble_eq_true h.2⟩
      · split at h
        · simp only [*]
          simp only [Bool.and_eq_true, decide_eq_true_eq] at h
          exact ⟨h.1.1, h.1.2, Nat.eq_of_beq_eq_true h.2⟩
        · cases h
      · cases h
    · split at h
      · split at h
        · simp only [*]
          simp only [Bool.and_eq_true, decide_eq_true_eq] at h
          exact ⟨h.1, h.2⟩
        · cases h
      · simp only [*]
        simp only [Bool.and_eq_true, decide_eq_true_eq] at h
        exact ⟨h.1.1.1, h.1.1.2, Nat.eq_of_beq_eq_true h.1.2, Nat.le_of_ble_eq_true h.2⟩
      · cases h
    · cases h
  · cases h
def fieldB (P : Program) (t : TypeId) (x : PV) (f : Nat) : Bool :=
  match tyOf P t with
  | some ⟨.struct fs, _, _, _⟩ => match fs[f]? with
    | some fd => match tyOf P fd.type with
      | some T => match x with
        | .agg cs => partB T cs fd.offset
        | _ => false
      | none => false
    | none => false
  | _ => false
theorem fieldB_pre {t : TypeId} {x : PV} {f : Nat} (h : fieldB P t x f = true) : (fieldF P t x f L).pre := by
  unfold fieldB at h
  unfold fieldF
  split at h
  · split at h
    · split at h
      · split at h
        · simp only [*]; exact partB_pre h
        · cases h
      · cases h
    · cases h
  · cases h
def fieldAddrB (P : Program) (t : TypeId) (a : PV) (f : Nat) (L : LH) : Bool :=
  match tyOf P t with
  | some ⟨.struct fs, _, _, _⟩ => match fs[f]? with
    | some fd => match tyOf P fd.type, a with
      | some T, .ptr id off => match L[id]? with
        | some (.cells _) => Nat.blt 0 T.size
        | _ => false
      | some T, .rptr cs => Nat.ble (fd.offset + T.size) cs.length && Nat.blt 0 T.size
      | _, _ => false
    | none => false
  | _ => false
theorem fieldAddrB_pre {t : TypeId} {a : PV} {f : Nat} (h : fieldAddrB P t a f L = true) : (fieldAddrF P t a f L).pre := by
  unfold fieldAddrB at h
  unfold fieldAddrF
  split at h
  · split at h
    · split at h
      · split at h
        · simp only [*]; exact Nat.le_of_ble_eq_true h
        · cases h
      · simp only [*]
        simp only [Bool.and_eq_true] at h
        exact ⟨Nat.le_of_ble_eq_true h.1, Nat.le_of_ble_eq_true h.2⟩
      · cases h
    · cases h
  · cases h
def indexB (P : Program) (t : TypeId) (x i : PV) : Bool :=
  match i with
  | .lit (.int _ i) => match tyOf P t with
    | some ⟨.array n e, _, _, _⟩ => match tyOf P e, x with
      | some E, .agg cs => decide (0 ≤ i) && decide (i < n) && partB E cs (i.toNat * E.size)
      | _, _ => false
    | _ => false
  | _ => false
theorem indexB_pre {t : TypeId} {x i : PV} (h : indexB P t x i = true) : (indexF P t x i L).pre := by
  unfold indexB at h
  unfold indexF
  split at h
  · split at h
    · split at h
      · simp only [*]
        simp only [Bool.and_eq_true, decide_eq_true_eq] at h
        exact ⟨h.1.1, h.1.2, partB_pre h.2⟩
      · cases h
    · cases h
  · cases h
def extractB (x : PV) (i : Nat) : Bool :=
  match x with
  | .tup vs => match vs[i]? with
    | some _ => true
    | none => false
  | _ => false
theorem extractB_pre {x : PV} {i : Nat} (h : extractB x i = true) : (extractF x i L).pre := by
  unfold extractB at h
  unfold extractF
  split at h
  · split at h
    · simp only [*]
    · cases h
  · cases h
def buildB (P : Program) (t : TypeId) (parts : List (Nat × PV)) : Bool :=
  match tyOf P t with
  | some ⟨.array n e, _, _, z⟩ => match tyOf P e with
    | some E => match fillB (fun i => some (i * E.size, E.size)) (zeroCells z) parts with
      | some cs => parts.all (fun x => x.2.cells.all PV.one)
      | none => false
    | none => false
  | some ⟨.struct fs, _, _, z⟩ => bif (placesF P fs.toList).all Option.isSome then match fillB (fun i => ((placesF P fs.toList)[i]?).join) (zeroCells z) parts with
      | some cs => parts.all (fun x => x.2.cells.all PV.one)
      | none => false
    else false
  | _ => false
theorem buildB_pre {t : TypeId} {parts : List (Nat × PV)} (h : buildB P t parts = true) : (buildF P t parts L).pre := by
  unfold buildB at h
  unfold buildF
  split at h
  · split at h
    · split at h
      · simp only [*]
      · cases h
    · cases h
  · cases hp : (placesF P _).all Option.isSome with
    | true =>
      rw [hp] at h
      simp only [cond_true] at h
      split at h
      · simp only [*, cond_true]
      · cases h
    | false => rw [hp] at h; cases h
  · cases h
def intB (op : BinOp) (b : Int) : Bool :=
  match op with
  | .add | .sub | .mul | .and | .or | .xor | .andNot | .eql | .neq | .lss | .leq | .gtr | .geq => true
  | .quo | .rem => !decide (b = 0)
  | _ => false
def aggEqB (P : Program) (t : TypeId) (xs ys : List PV) : Bool :=
  match eqG P t (.agg xs) (.agg ys) with
  | some _ => true
  | none => false
def boolEqB (P : Program) (t : TypeId) : Bool :=
  match tyOf P t with
  | some ⟨.bool, _, _, _⟩ => true
  | _ => false
def binB (P : Program) (op : BinOp) (t : TypeId) (x y : PV) : Bool :=
  match x, y with
  | .lit (.int k a), .lit (.int k' b) => match op with
    | .shl | .shr => decide (0 ≤ b)
    | op => decide (k = k') && intB op b
  | .lit (.string a), .lit (.string b) => match op with
    | .eql | .neq => true
    | _ => false
  | .lit (.bool a), .lit (.bool b) => match op with
    | .eql | .neq => boolEqB P t
    | _ => false
  | .agg xs, .agg ys => match op with
    | .eql | .neq => aggEqB P t xs ys
    | _ => false
  | _, _ => false
theorem boolEqB_pre {t : TypeId} (h : boolEqB P t = true) : (tyOf P t).map (·.und) = some .bool := by
  unfold boolEqB at h
  split at h
  · rename_i h1; rw [h1]; rfl
  · cases h
theorem aggEqB_pre {t : TypeId} {xs ys : List PV} (h : aggEqB P t xs ys = true) : (binF P .eql t (.agg xs) (.agg ys) L).pre ∧ (binF P .neq t (.agg xs) (.agg ys) L).pre := by
  unfold aggEqB at h
  simp only [binF]
  split at h
  · rename_i hb
    simp only [hb]
    exact ⟨trivial, trivial⟩
  · cases h
theorem binB_pre {op : BinOp} {t : TypeId} {x y : PV} (h : binB P op t x y = true) : (binF P op t x y L).pre := by
  unfold binB at h
  split at h
  · cases op <;> simp_all [binF, binInt, intB]
  · cases op <;> simp_all [binF, binStr]
  · cases op <;> first | (cases h; done) | exact boolEqB_pre h
  · cases op <;> first | (cases h; done) | exact (aggEqB_pre h).1 | exact (aggEqB_pre h).2
  · cases h
def unB (op : UnOp) (x : PV) : Bool :=
  match op, x with
  | .neg, .lit (.int _ _) => true
  | .xor, .lit (.int _ _) => true
  | .not, .lit (.bool _) => true
  | _, _ => false
theorem unB_pre {op : UnOp} {x : PV} (h : unB op x = true) : (unF op x L).pre := by
  unfold unB at h
  split at h
  · trivial
  · trivial
  · trivial
  · cases h
def convB (P : Program) (src dst : TypeId) (x : PV) : Bool :=
  match x with
  | .lit (.int _ _) => match tyOf P src, tyOf P dst with
    | some _, some ⟨.int _, _, _, _⟩ => true
    | _, _ => false
  | .lit (.string _) => match tyOf P src, tyOf P dst with
    | some ⟨.string, _, _, _⟩, some ⟨.string, _, _, _⟩ => true
    | some ⟨.string, _, _, _⟩, some ⟨.slice e, _, _, _⟩ => match tyOf P e with
      | some ⟨.int .u8, 1, _, _⟩ => true
      | _ => false
    | _, _ => false
  | _ => false
theorem convB_pre {draw : Bool} {src dst : TypeId} {x : PV} (h : convB P src dst x = true) : (convG P draw src dst x L).pre := by
  unfold convB at h
  split at h
  · rename_i k n
    have e : convG P draw src dst (.lit (.int k n)) L = convF P src dst (.lit (.int k n)) L := by cases draw <;> rfl
    rw [e]
    unfold convF
    split at h
    · simp only [*]
    · cases h
  · rename_i b
    have e : convG P draw src dst (.lit (.string b)) L = convF P src dst (.lit (.string b)) L := by cases draw <;> rfl
    rw [e]
    unfold convF
    split at h
    · simp only [*]
    · split at h
      · simp only [*]
      · cases h
    · cases h
  · cases h
def sliceB (P : Program) (t : TypeId) (x : PV) (lo hi mx : Option PV) (L : LH) : Bool :=
  match tyOf P t, mx with
  | some ⟨.slice e, _, _, _⟩, none => match tyOf P e, x with
    | some E, .lit (.slice none 0 0) => match ints? lo 0, ints? hi 0 with
      | some l, some h => decide (l = 0) && decide (h = 0)
      | _, _ => false
    | some E, .ro n cs => match ints? lo 0, ints? hi n with
      | some l, some h => decide (0 ≤ l) && decide (l ≤ h) && decide (h ≤ n) && Nat.beq cs.length (n * E.size)
      | _, _ => false
    | some E, .own id off n sz => match ints? lo 0, ints? hi n, L[id]? with
      | some l, some h, some (.cells _) => decide (0 ≤ l) && decide (l ≤ h) && decide (h ≤ n) && Nat.beq sz E.size && (decide (l = 0) || decide (l < h))
      | _, _, _ => false
    | _, _ => false
  | some ⟨.array n e, _, _, _⟩, none => match tyOf P e, x, ints? lo 0, ints? hi n with
    | some E, .ptr id off, some l, some h => match L[id]? with
      | some (.cells cs) => decide (0 ≤ l) && decide (l ≤ h) && decide (h ≤ n) && (decide (l = 0) || decide (l < h)) && Nat.ble (off + n * E.size) cs.length
      | _ => false
    | some E, .rptr cs, some l, some h => decide (l = 0) && decide (h = n) && Nat.blt 0 n && Nat.beq cs.length (n * E.size) && Nat.blt 0 E.size
    | _, _, _, _ => false
  | _, _ => false
theorem sliceB_pre {t : TypeId} {x : PV} {lo hi mx : Option PV} (h : sliceB P t x lo hi mx L = true) : (sliceF P t x lo hi mx L).pre := by
  unfold sliceB at h
  unfold sliceF
  split at h
  · split at h
    · split at h
      · simp only [*]
        simp only [Bool.and_eq_true, decide_eq_true_eq] at h
        exact h
      · cases h
    · split at h
      · simp only [*]
        simp only [Bool.and_eq_true, decide_eq_true_eq] at h
        exact ⟨h.1.1.1, h.1.1.2, h.1.2, Nat.eq_of_beq_eq_true h.2⟩
      · cases h
    · split at h
      · simp only [*]
        simp only [Bool.and_eq_true, Bool.or_eq_true, decide_eq_true_eq] at h
        exact ⟨h.1.1.1.1, h.1.1.1.2, h.1.1.2, Nat.eq_of_beq_eq_true h.1.2, h.2⟩
      · cases h
    · cases h
  · split at h
    · split at h
      · simp only [*]
        simp only [Bool.and_eq_true, Bool.or_eq_true, decide_eq_true_eq] at h
        exact ⟨h.1.1.1.1, h.1.1.1.2, h.1.1.2, h.1.2, Nat.le_of_ble_eq_true h.2⟩
      · cases h
    · simp only [*]
      simp only [Bool.and_eq_true, decide_eq_true_eq] at h
      exact ⟨h.1.1.1.1, h.1.1.1.2, Nat.le_of_ble_eq_true h.1.1.2, Nat.eq_of_beq_eq_true h.1.2, Nat.le_of_ble_eq_true h.2⟩
    · cases h
  · cases h
def lenB (P : Program) (t : TypeId) (x : PV) (L : LH) : Bool :=
  match tyOf P t with
  | some ⟨.string, _, _, _⟩ => match x with
    | .lit (.string _) => true
    | _ => false
  | some ⟨.slice _, _, _, _⟩ => match x with
    | .lit (.slice _ _ _) => true
    | .ro _ _ => true
    | .own id _ _ _ => match L[id]? with
      | some (.cells _) => true
      | _ => false
    | _ => false
  | some ⟨.array _ _, _, _, _⟩ => true
  | _ => false
theorem lenB_pre {t : TypeId} {x : PV} (h : lenB P t x L = true) : (lenF P t x L).pre := by
  unfold lenB at h
  unfold lenF
  split at h
  · split at h
    · simp only [*]
    · cases h
  · split at h
    · simp only [*]
    · simp only [*]
    · split at h
      · simp only [*]
      · cases h
    · cases h
  · simp only [*]
  · cases h
def makeB (P : Program) (t : TypeId) (l c : PV) : Bool :=
  match tyOf P t with
  | some ⟨.slice e, _, _, _⟩ => match tyOf P e, l, c with
    | some E, .lit (.int _ l), .lit (.int _ c) => decide (0 ≤ l) && decide (l ≤ c) && decide (E.bytes * c ≤ 281474976710656) && decide (c ≤ 9223372036854775807) && Nat.beq E.zero.cells.size E.size && E.zero.cells.toList.all Value.oneCell'
    | _, _, _ => false
  | _ => false
theorem makeB_pre {draw : Bool} {t : TypeId} {l c : PV} (h : makeB P t l c = true) : (makeF P draw t l c L).pre := by
  unfold makeB at h
  unfold makeF
  split at h
  · split at h
    · simp only [*]
      simp only [Bool.and_eq_true, decide_eq_true_eq] at h
      exact ⟨h.1.1.1.1.1, h.1.1.1.1.2, h.1.1.1.2, h.1.1.2, Nat.eq_of_beq_eq_true h.1.2, List.all_eq_true.1 h.2⟩
    · cases h
  · cases h
def slcB (L : LH) : PV → Bool
  | .lit (.slice none 0 0) => true
  | .ro _ _ => true
  | .own id off n sz => match L[id]? with
    | some (.cells cs) => Nat.ble (off + n * sz) cs.length
    | _ => false
  | _ => false
theorem slcB_pre {x : PV} (h : slcB L x = true) : (slc L x).1 := by
  unfold slcB at h
  unfold slc
  split at h
  · trivial
  · trivial
  · split at h
    · simp only [*]; exact Nat.le_of_ble_eq_true h
    · cases h
  · cases h
def copyB (P : Program) (draw : Bool) (t : TypeId) (d s : PV) (L : LH) : Bool :=
  match tyOf P t with
  | some ⟨.slice e, _, _, _⟩ => match tyOf P e, d, draw with
    | some E, .own id off n sz, false => match L[id]? with
      | some (.cells cs) => slcB L s && Nat.beq sz E.size && Nat.beq (slc L s).2.2.length ((slc L s).2.1 * E.size) && Nat.ble (off + n * sz) cs.length
      | _ => false
    | _, _, _ => false
  | _ => false
theorem copyB_pre {draw : Bool} {t : TypeId} {d s : PV} (h : copyB P draw t d s L = true) : (copyF P draw t d s L).pre := by
  unfold copyB at h
  unfold copyF
  split at h
  · split at h
    · split at h
      · simp only [*]
        simp only [Bool.and_eq_true] at h
        exact ⟨slcB_pre h.1.1.1, Nat.eq_of_beq_eq_true h.1.1.2, Nat.eq_of_beq_eq_true h.1.2, Nat.le_of_ble_eq_true h.2⟩
      · cases h
    · cases h
  · cases h
def nilB (x : PV) (L : LH) : Bool :=
  match x with
  | .rptr _ => true
  | .ptr id _ => match L[id]? with
    | some (.cells _) => true
    | _ => false
  | _ => false
def mmB (x y : PV) : Bool :=
  match x, y with
  | .lit (.int _ _), .lit (.int _ _) => true
  | _, _ => false
def opB (P : Program) (draw : Bool) (ρ : Operand → PV) (L : LH) (op : Op) : Bool :=
  match op with
  | .move _ => true
  | .assign _ => true
  | .alloc t => allocB P draw t
  | .box _ x => boxB draw (ρ x)
  | .build t parts => buildB P t (parts.toList.map fun x => (x.1, ρ x.2))
  | .fieldAddr t x f => fieldAddrB P t (ρ x) f L
  | .load t a => loadB P t (ρ a) L
  | .store t a x => storeB P draw t (ρ a) (ρ x) L
  | .nilCheck x => nilB (ρ x) L
  | .binOp op t x y _ => binB P op t (ρ x) (ρ y)
  | .unOp op _ x => unB op (ρ x)
  | .convert src dst x => convB P src dst (ρ x)
  | .makeSlice t l c => makeB P t (ρ l) (ρ c)
  | .slice t x lo hi mx => sliceB P t (ρ x) (lo.map ρ) (hi.map ρ) (mx.map ρ) L
  | .indexAddr t x i => indexAddrB P t (ρ x) (ρ i) L
  | .index t x i => indexB P t (ρ x) (ρ i)
  | .field t x f => fieldB P t (ρ x) f
  | .extract x i => extractB (ρ x) i
  | .call c => match c.callee, c.args.toList, c.argTypes.toList with
    | .builtin .len, [x], [t] => lenB P t (ρ x) L
    | .builtin .copy, [d, s], [t, _t2] => copyB P draw t (ρ d) (ρ s) L
    | .builtin .min, [x, y], [_t, _t2] => mmB (ρ x) (ρ y)
    | .builtin .max, [x, y], [_t, _t2] => mmB (ρ x) (ρ y)
    | _, _, _ => false
  | _ => false
theorem opB_pre {Γ : Con} {draw : Bool} {ρ : Operand → PV} {op : Op} (h : opB P draw ρ L op = true) : (opF P Γ draw ρ L op).pre := by
  unfold opB at h
  split at h
  · trivial
  · trivial
  · exact allocB_pre h
  · exact boxB_pre h
  · exact buildB_pre h
  · exact fieldAddrB_pre h
  · exact loadB_pre h
  · exact storeB_pre h
  · unfold nilB at h
    simp only [opF]
    split at h
    · simp only [*]
    · split at h
      · simp only [*]
      · cases h
    · cases h
  · exact binB_pre h
  · exact unB_pre h
  · exact convB_pre h
  · exact makeB_pre h
  · exact sliceB_pre h
  · exact indexAddrB_pre h
  · exact indexB_pre h
  · exact fieldB_pre h
  · exact extractB_pre h
  · simp only [opF]
    split at h
    · simp only [*]; exact lenB_pre h
    · simp only [*]; exact copyB_pre h
    · simp only [*]
      unfold mmB at h
      split at h
      · simp only [*]; trivial
      · cases h
    · simp only [*]
      unfold mmB at h
      split at h
      · simp only [*]; trivial
      · cases h
    · cases h
  · cases h
end Go.Ab
namespace Go.Ab
open Go Go.RowKit
set_option linter.unusedVariables false
set_option linter.unusedSimpArgs false
variable {P : Program} {Γ : Con} {L : LH} {env : Env}
inductive Scr : Type 1 where
  | e
  | d (n : Nat) (s : Scr)
  | v (p : PV) (s : Scr)
  | q (s : Scr)
  | w (p : PV) (s : Scr)
  | c (r : PV) (s : Scr)
  | k (qs : List PV) (r : PV) (s : Scr)
  | x (r : PV) (s : Scr)
  | t (r : PV) (L' : LH) (s : Scr)
  | f (s t : Scr)
  | n (s : Scr)
  | z (t : Nat) (cs : List PV) (s : Scr)
  | l {ι : Type} (I : ι → Env × LH) (inv : ι → Prop) (μ : ι → Nat) (m : List Nat) (b : ι → Scr)
  | a (m : List Nat)
  | s (n : Nat) {ι : Type} (I : ι → Env × LH) (inv : ι → Prop) (s : Scr) (b : ι → Scr)
  | u (n : Nat) (s : Scr)
  | g (p q : Nat) (m : List Nat) (s t : Scr)
  | h (keep : List Nat) (s : Scr)
  | r (id : Nat) (cs : List PV) (s : Scr)
def strip : Scr → Scr
  | .d 0 s => strip s
  | s => s
def dec : Scr → Scr
  | .d (n + 1) s => .d n s
  | s => s
def fNl : List Nat → Nat → (Nat → Prop) → Prop
  | [], n, k => k n
  | a :: l, n, k => bif Nat.beq n a then k a else fNl l n k
theorem fNl_eq : ∀ {l : List Nat} {n : Nat} {k : Nat → Prop}, fNl l n k = k n
  | [], _, _ => rfl
  | a :: l, n, k => by
    unfold fNl
    cases hb : Nat.beq n a with
    | true => rw [Nat.eq_of_beq_eq_true hb]; rfl
    | false => exact fNl_eq
def fN (n : Nat) (k : Nat → Prop) : Prop := fNl [0, 1, 2, 3, 4, 5, 6, 7, 8, 9, 10, 11, 12, 13, 14, 15, 16, 17, 18, 19, 20, 21, 22, 23, 24, 25, 26, 27, 28, 29, 30, 31, 32, 33, 34, 35, 36, 37, 38, 39, 40, 41, 42, 43, 44, 45, 46, 47, 48, 49, 50, 51, 52, 53, 54, 55, 56, 57, 58, 59, 60] n k
theorem fN_eq {n : Nat} {k : Nat → Prop} : fN n k = k n := fNl_eq
def fP (env : Env) (dst : Option Nat) (v : PV) (k : Env → Prop) : Prop :=
  match dst with
  | some d => k ((d, v) :: env)
  | none => k env
theorem fP_eq {env : Env} {dst : Option Nat} {v : PV} {k : Env → Prop} : fP env dst v k = k (putIn env dst v) := by cases dst <;> rfl
def fV (p : PV) (k : PV → Prop) : Prop :=
  match p with
  | .any => k .any
  | .lit v => match v with
    | .int kd n => k (.lit (.int kd n))
    | .bool b => k (.lit (.bool b))
    | v => k (.lit v)
  | .ro n c => k (.ro n c)
  | .own a b c d => fN a fun a => k (.own a b c d)
  | .ptr a b => fN a fun a => k (.ptr a b)
  | .rptr c => k (.rptr c)
  | .agg c => k (.agg c)
  | .tup c => k (.tup c)
  | .fn a b c => k (.fn a b c)
  | .new a b c => k (.new a b c)
theorem fV_eq {p : PV} {k : PV → Prop} : fV p k = k p := by
  cases p <;> try rfl
  · rename_i v
    cases v <;> rfl
  · exact fN_eq
  · exact fN_eq
def fW (o : Op) (p : PV) (k : PV → Prop) : Prop :=
  match o with
  | .indexAddr _ _ _ => match p with
    | .ptr a b => fN a fun a => fN b fun b => k (.ptr a b)
    | p => fV p k
  | .fieldAddr _ _ _ => match p with
    | .ptr a b => fN a fun a => fN b fun b => k (.ptr a b)
    | p => fV p k
  | _ => fV p k
theorem fW_eq {o : Op} {p : PV} {k : PV → Prop} : fW o p k = k p := by
  unfold fW
  split
  · split
    · rw [fN_eq, fN_eq]
    · exact fV_eq
  · split
    · rw [fN_eq, fN_eq]
    · exact fV_eq
  · exact fV_eq
def fL : LH → (LH → Prop) → Prop
  | [], k => k []
  | .dead :: r, k => fL r fun r => k (.dead :: r)
  | .cells c :: r, k => fL r fun r => k (.cells c :: r)
theorem fL_eq : ∀ {L : LH} {k : LH → Prop}, fL L k = k L
  | [], _ => rfl
  | .dead :: r, k => by rw [fL, fL_eq]
  | .cells c :: r, k => by rw [fL, fL_eq]
def fK (env : Env) : List Nat → (Env → Prop) → Prop
  | [], k => k []
  | t :: r, k => fV (lookup env t) fun v => fK env r fun e => k ((t, v) :: e)
def narrow (keep : List Nat) (env : Env) : Env := keep.map fun t => (t, lookup env t)
theorem fK_eq : ∀ {keep : List Nat} {k : Env → Prop}, fK env keep k = k (narrow keep env)
  | [], _ => rfl
  | t :: r, k => by rw [fK, fV_eq, fK_eq]; rfl
theorem lookup_narrow : ∀ (keep : List Nat) (env : Env) (t : Nat), lookup (narrow keep env) t = .any ∨ lookup (narrow keep env) t = lookup env t
  | [], _, _ => .inl rfl
  | i :: r, env, t => by
    simp only [narrow, List.map_cons, lookup]
    cases hb : (i == t) with
    | true => have := eq_of_beq hb; subst this; exact .inr rfl
    | false => exact lookup_narrow r env t
def conj : List Prop → Prop → Prop
  | [], k => k
  | a :: l, k => a ∧ conj l k
def conj1 : List Prop → Prop
  | [] => True
  | [a] => a
  | a :: l => a ∧ conj1 l
theorem conj_eq : ∀ {l : List Prop} {k : Prop}, conj l k → (∀ a ∈ l, a) ∧ k
  | [], k, h => ⟨by simp, h⟩
  | a :: l, k, h => ⟨fun b hb => by
      rcases List.mem_cons.1 hb with rfl | hb
      · exact h.1
      · exact (conj_eq h.2).1 b hb, (conj_eq h.2).2⟩
theorem conj1_eq : ∀ {l : List Prop}, conj1 l → ∀ a ∈ l, a
  | [], _ => by simp
  | [a], h => fun c hc => by have := List.mem_singleton.1 hc; subst this; exact h
  | a :: b :: l, h => fun c hc => by
      rcases List.mem_cons.1 hc with rfl | hc
      · exact h.1
      · exact conj1_eq (l := b :: l) h.2 c hc
def natO : Option Nat → Nat → Bool
  | some i, j => Nat.beq i j
  | none, _ => false
theorem natO_eq {o : Option Nat} {j : Nat} (h : natO o j = true) : o = some j := by
  cases o with
  | none => cases h
  | some i => rw [Nat.eq_of_beq_eq_true h]
def both (a b : Bool × List Prop) : Bool × List Prop := (a.1 && b.1, a.2 ++ b.2)
def wkV (m : List Nat) (p q : PV) : Bool × List Prop :=
  match q with
  | .any => (true, [])
  | .own k off' n' sz' => match p with
    | .own id off n sz => (natO m[k]? id && Nat.beq off off' && Nat.beq sz sz', [n = n'])
    | _ => (false, [])
  | .ptr k off' => match p with
    | .ptr id off => (natO m[k]? id && Nat.beq off off', [])
    | _ => (false, [])
  | .lit (.int k' b) => match p with
    | .lit (.int k a) => (decide (k = k'), [a = b])
    | _ => (false, [])
  | q => (true, [p = q, closed q = true])
theorem wkV_ok {m : List Nat} {p q : PV} (h : (wkV m p q).1 = true) (hp : ∀ a ∈ (wkV m p q).2, a) : RenOk m p q := by
  unfold wkV at h hp
  split at h
  · exact .inl rfl
  · split at h
    · simp only [Bool.and_eq_true] at h
      have h1 := natO_eq h.1.1
      have h2 := Nat.eq_of_beq_eq_true h.1.2
      have h3 := Nat.eq_of_beq_eq_true h.2
      have h4 := hp _ (List.mem_singleton.2 rfl)
      subst h2 h3
      exact .inr (.inr (.inl ⟨_, _, _, _, _, rfl, h1, by rw [h4]⟩))
    · cases h
  · split at h
    · simp only [Bool.and_eq_true] at h
      have h1 := natO_eq h.1
      have h2 := Nat.eq_of_beq_eq_true h.2
      subst h2
      exact .inr (.inr (.inr ⟨_, _, _, rfl, h1, rfl⟩))
    · cases h
  · split at h
    · simp only [decide_eq_true_eq] at h
      have h4 := hp _ (List.mem_singleton.2 rfl)
      subst h
      subst h4
      exact .inr (.inl ⟨rfl, rfl⟩)
    · cases h
  · have h1 := hp (p = q) (by simp)
    have h2 := hp (closed q = true) (by simp)
    exact .inr (.inl ⟨by rw [h1]; exact h2, h1.symm⟩)
def hasN : List Nat → Nat → Bool
  | [], _ => false
  | a :: l, t => Nat.beq a t || hasN l t
def wkE (m : List Nat) (env : Env) : List Nat → Env → Bool × List Prop
  | _, [] => (true, [])
  | seen, (t, q) :: r => bif hasN seen t then wkE m env seen r else both (wkV m (lookup env t) q) (wkE m env (t :: seen) r)
theorem both_ok {a b : Bool × List Prop} (h : (both a b).1 = true) (hp : ∀ x ∈ (both a b).2, x) : (a.1 = true ∧ ∀ x ∈ a.2, x) ∧ (b.1 = true ∧ ∀ x ∈ b.2, x) := by
  simp only [both, Bool.and_eq_true] at h
  exact ⟨⟨h.1, fun x hx => hp x (List.mem_append_left _ hx)⟩, ⟨h.2, fun x hx => hp x (List.mem_append_right _ hx)⟩⟩
theorem wkE_ok {m : List Nat} : ∀ {env2 : Env} {seen : List Nat}, (wkE m env seen env2).1 = true → (∀ a ∈ (wkE m env seen env2).2, a) →
    ∀ t, hasN seen t = false → lookup env2 t = .any ∨ RenOk m (lookup env t) (lookup env2 t)
  | [], _, _, _ => fun t _ => .inl rfl
  | (i, q) :: r, seen, h, hp => fun t ht => by
    simp only [wkE] at h hp
    simp only [lookup]
    cases hs : hasN seen i with
    | true =>
      rw [hs] at h hp
      simp only [cond_true] at h hp
      have hne : (i == t) = false := by
        cases hb : (i == t) with
        | false => rfl
        | true => rw [eq_of_beq hb, ht] at hs; cases hs
      rw [hne]
      exact wkE_ok h hp t ht
    | false =>
      rw [hs] at h hp
      simp only [cond_false] at h hp
      obtain ⟨h1, h2⟩ := both_ok h hp
      cases hb : (i == t) with
      | true =>
        have := eq_of_beq hb
        subst this
        exact .inr (wkV_ok h1.1 h1.2)
      | false =>
        refine wkE_ok h2.1 h2.2 t ?_
        have : Nat.beq i t = false := by
          cases hh : Nat.beq i t with
          | false => rfl
          | true => rw [Nat.eq_of_beq_eq_true hh, beq_self_eq_true] at hb; cases hb
        simp [hasN, this, ht]
def wkR (L : LH) : List Nat → LH → Bool × List Prop
  | [], [] => (true, [])
  | _ :: m, .dead :: L2 => wkR L m L2
  | i :: m, .cells cs :: L2 => match L[i]? with
    | some (.cells c0) => both (true, [c0 = cs, closedL cs = true]) (wkR L m L2)
    | _ => (false, [])
  | _, _ => (false, [])
theorem wkR_ok : ∀ {m : List Nat} {L2 : LH}, (wkR L m L2).1 = true → (∀ a ∈ (wkR L m L2).2, a) →
    L2.length = m.length ∧ ∀ (k i : Nat) cs, m[k]? = some i → L2[k]? = some (.cells cs) → L[i]? = some (.cells cs) ∧ closedL cs = true
  | [], [], _, _ => ⟨rfl, fun k i cs h => by simp at h⟩
  | [], x :: _, h, _ => by cases x <;> cases h
  | _ :: _, [], h, _ => by cases h
  | i :: m, .dead :: L2, h, hp => by
    obtain ⟨e1, e2⟩ := wkR_ok (m := m) (L2 := L2) h hp
    refine ⟨by simp [e1], fun k j cs hk hL => ?_⟩
    cases k with
    | zero => simp at hL
    | succ k => exact e2 k j cs (by simpa using hk) (by simpa using hL)
  | i :: m, .cells cs0 :: L2, h, hp => by
    unfold wkR at h hp
    split at h
    · rename_i c0 hc
      simp only [hc] at hp
      obtain ⟨h1, h2⟩ := both_ok h hp
      have a1 := h1.2 (c0 = cs0) (by simp)
      have a2 := h1.2 (closedL cs0 = true) (by simp)
      obtain ⟨e1, e2⟩ := wkR_ok (m := m) (L2 := L2) h2.1 h2.2
      refine ⟨by simp [e1], fun k j cs hk hL => ?_⟩
      cases k with
      | zero => simp at hk hL; subst hk hL; exact ⟨by rw [hc, a1], a2⟩
      | succ k => exact e2 k j cs (by simpa using hk) (by simpa using hL)
    · cases h
def nodupB : List Nat → Bool
  | [] => true
  | a :: l => !hasN l a && nodupB l
theorem hasN_mem : ∀ {l : List Nat} {t : Nat}, t ∈ l → hasN l t = true
  | a :: l, t, h => by
    rcases List.mem_cons.1 h with rfl | h
    · simp [hasN, Nat.beq_refl]
    · simp [hasN, hasN_mem h]
theorem nodupB_ok : ∀ {l : List Nat}, nodupB l = true → l.Nodup
  | [], _ => by simp
  | a :: l, h => by
    simp only [nodupB, Bool.and_eq_true, Bool.not_eq_true'] at h
    refine List.nodup_cons.2 ⟨fun hm => ?_, nodupB_ok h.2⟩
    rw [hasN_mem hm] at h
    cases h.1
def wk (n : Nat) (m : List Nat) (env : Env) (L : LH) (env2 : Env) (L2 : LH) : Bool × List Prop :=
  both (nodupB m && m.all (fun i => Nat.blt i L.length) && (List.range n).all (fun i => natO m[i]? i), []) (both (wkR L m L2) (wkE m env [] env2))
theorem wk_ok {n : Nat} {m : List Nat} {env2 : Env} {L2 : LH} (h : (wk n m env L env2 L2).1 = true) (hp : ∀ a ∈ (wk n m env L env2 L2).2, a) : Weak n m env L env2 L2 := by
  obtain ⟨h1, h2⟩ := both_ok h hp
  obtain ⟨h3, h4⟩ := both_ok h2.1 h2.2
  simp only [Bool.and_eq_true] at h1
  obtain ⟨r1, r2⟩ := wkR_ok h3.1 h3.2
  exact ⟨fun i hi => natO_eq (List.all_eq_true.1 h1.1.2 i (by simpa using hi)), nodupB_ok h1.1.1.1,
    fun i hi => Nat.le_of_ble_eq_true (List.all_eq_true.1 h1.1.1.2 i hi), r1, r2, fun x hx hl => by
    rcases wkE_ok h4.1 h4.2 x.1 rfl with h | h
    · rw [← hl, h]; exact .inl rfl
    · rw [← hl]; exact h⟩
def xW (w : Bool × List Prop) : Prop := match w.1 with
  | true => conj1 w.2
  | false => False
theorem xW_ok {n : Nat} {m : List Nat} {env2 : Env} {L2 : LH} (h : xW (wk n m env L env2 L2)) : Weak n m env L env2 L2 := by
  unfold xW at h
  split at h
  · rename_i hb; exact wk_ok hb (conj1_eq h)
  · exact h.elim
def setB : Env → Nat → Bool → Env
  | [], _, _ => []
  | (i, p) :: r, g, b => bif Nat.beq i g then (i, .lit (.bool b)) :: r else (i, p) :: setB r g b
theorem setB_eq {g : Nat} {b : Bool} : ∀ {env : Env}, lookup env g = .lit (.bool b) → setB env g b = env
  | [], _ => rfl
  | (i, p) :: r, h => by
    simp only [lookup] at h
    simp only [setB]
    cases hb : Nat.beq i g with
    | true =>
      have := Nat.eq_of_beq_eq_true hb
      subst this
      simp only [beq_self_eq_true, cond_true] at h
      simp [h]
    | false =>
      have hne : (i == g) = false := by
        cases hh : (i == g) with
        | false => rfl
        | true => rw [eq_of_beq hh, Nat.beq_refl] at hb; cases hb
      rw [hne] at h
      simp only [cond_false] at h ⊢
      rw [setB_eq h]
def xGuard (all : List Oper) (gd : Option (Nat × Bool)) (s : Scr) (env : Env) (k : Bool → Scr → Env → Prop) : Prop :=
  match gd with
  | none => k true s env
  | some (j, want) => match (all[j]?).bind (·.dst) with
    | some g => match lookup env g with
      | .lit (.bool b) => match strip s with
        | .f s1 s2 => (b = true → k (true == want) s1 (setB env g true)) ∧ (b = false → k (false == want) s2 (setB env g false))
        | s => match b with
          | true => k (true == want) s env
          | false => k (false == want) s env
      | .lit (.tuple _) => k false s env
      | _ => False
    | none => False
theorem xGuard_ok {all : List Oper} {o : Oper} {s : Scr} {k : Bool → Scr → Env → Prop} (h : xGuard all o.guard s env k) : ∃ b s', GuardIs all env o b ∧ k b s' env := by
  unfold xGuard at h
  split at h
  · rename_i hg; exact ⟨true, s, .inl ⟨hg, rfl⟩, h⟩
  · rename_i j want hg
    split at h
    · rename_i g hj
      split at h
      · rename_i b hl
        split at h
        · cases b with
          | true =>
            have := h.1 rfl
            rw [setB_eq hl] at this
            exact ⟨_, _, .inr ⟨j, want, g, hg, hj, .inl ⟨true, hl, rfl⟩⟩, this⟩
          | false =>
            have := h.2 rfl
            rw [setB_eq hl] at this
            exact ⟨_, _, .inr ⟨j, want, g, hg, hj, .inl ⟨false, hl, rfl⟩⟩, this⟩
        · split at h
          · exact ⟨_, _, .inr ⟨j, want, g, hg, hj, .inl ⟨true, hl, rfl⟩⟩, h⟩
          · exact ⟨_, _, .inr ⟨j, want, g, hg, hj, .inl ⟨false, hl, rfl⟩⟩, h⟩
      · rename_i vs hl
        exact ⟨false, s, .inr ⟨j, want, g, hg, hj, .inr ⟨vs, hl, rfl⟩⟩, h⟩
      · exact h.elim
    · exact h.elim
def xPlain (P : Program) (dr : Bool) (o : Op) (s : Scr) (env : Env) (L : LH) (k : Scr → PV → LH → Prop) : Prop :=
  match strip s with
  | .v p s => match opB P dr (evalIn env) L o with
    | true => (opF P noCon dr (evalIn env) L o).val = p ∧ fL (opF P noCon dr (evalIn env) L o).L fun L' => k s p L'
    | false => False
  | .q s => (opF P noCon dr (evalIn env) L o).pre ∧ fV (opF P noCon dr (evalIn env) L o).val fun v => fL (opF P noCon dr (evalIn env) L o).L fun L' => k s v L'
  | .w p s => (opF P noCon dr (evalIn env) L o).pre ∧ (opF P noCon dr (evalIn env) L o).val = p ∧ fL (opF P noCon dr (evalIn env) L o).L fun L' => k s p L'
  | .d (n + 1) s => match opB P dr (evalIn env) L o with
    | true => fW o (opF P noCon dr (evalIn env) L o).val fun v => fL (opF P noCon dr (evalIn env) L o).L fun L' => k (.d n s) v L'
    | false => False
  | .e => match opB P dr (evalIn env) L o with
    | true => fW o (opF P noCon dr (evalIn env) L o).val fun v => fL (opF P noCon dr (evalIn env) L o).L fun L' => k .e v L'
    | false => False
  | _ => False
theorem xPlain_ok {dr : Bool} {o : Op} {s : Scr} {k : Scr → PV → LH → Prop} (h : xPlain P dr o s env L k) :
    ∃ s' v L', ((opF P noCon dr (evalIn env) L o).pre ∧ v = (opF P noCon dr (evalIn env) L o).val ∧ L' = (opF P noCon dr (evalIn env) L o).L) ∧ k s' v L' := by
  unfold xPlain at h
  split at h
  · split at h
    · rename_i hb
      rw [fL_eq] at h
      exact ⟨_, _, _, ⟨opB_pre hb, h.1.symm, rfl⟩, h.2⟩
    · exact h.elim
  · rw [fV_eq, fL_eq] at h
    exact ⟨_, _, _, ⟨h.1, rfl, rfl⟩, h.2⟩
  · rw [fL_eq] at h
    exact ⟨_, _, _, ⟨h.1, h.2.1.symm, rfl⟩, h.2.2⟩
  · split at h
    · rename_i hb
      rw [fW_eq, fL_eq] at h
      exact ⟨_, _, _, ⟨opB_pre hb, rfl, rfl⟩, h⟩
    · exact h.elim
  · split at h
    · rename_i hb
      rw [fW_eq, fL_eq] at h
      exact ⟨_, _, _, ⟨opB_pre hb, rfl, rfl⟩, h⟩
    · exact h.elim
  · exact h.elim
end Go.Ab
namespace Go.Ab
open Go Go.RowKit
set_option linter.unusedVariables false
set_option linter.unusedSimpArgs false
variable {P : Program} {Γ : Con} {L : LH} {env : Env}
theorem dro_closed : ∀ (n : Nat) (p : PV), closed p = true → dro L n p = p ∧ droOk L n p
  | 0, p, _ => by cases p <;> simp_all [dro, droOk, closed]
  | n + 1, .agg cs, h => by
    have hc : ∀ q ∈ cs, closed q = true := closedL_iff.1 (by simpa [closed] using h)
    simp only [dro, droOk]
    refine ⟨?_, fun q hq => (dro_closed n q (hc q hq)).2⟩
    rw [List.map_congr_left (g := id) (fun q hq => (dro_closed n q (hc q hq)).1), List.map_id]
  | n + 1, .any, h => by simp [dro, droOk]
  | n + 1, .lit _, h => by simp [dro, droOk]
  | n + 1, .ro _ _, h => by simp [dro, droOk]
  | n + 1, .own _ _ _ _, h => by simp [closed] at h
  | n + 1, .ptr _ _, h => by simp [closed] at h
  | n + 1, .rptr _, h => by simp [dro, droOk]
  | n + 1, .tup _, h => by simp [dro, droOk]
  | n + 1, .fn _ _ _, h => by simp [dro, droOk]
  | n + 1, .new _ _ _, h => by simp [closed] at h
theorem map_dro {n : Nat} {cs : List PV} (h : closedL cs = true) : cs.map (dro L n) = cs ∧ ∀ q ∈ cs, droOk L n q := by
  have hc := closedL_iff.1 h
  refine ⟨?_, fun q hq => (dro_closed n q (hc q hq)).2⟩
  rw [List.map_congr_left (g := id) (fun q hq => (dro_closed n q (hc q hq)).1), List.map_id]
def borV (L : LH) (p q : PV) : Bool × List Prop :=
  match p with
  | .own id off n sz => match q with
    | .ro n' cs => match L[id]? with
      | some (.cells row) => (true, [off + n * sz ≤ row.length, n = n', (row.drop off).take (n * sz) = cs, closedL cs = true])
      | _ => (false, [])
    | _ => (false, [])
  | .ptr id off => match q with
    | .rptr cs => match L[id]? with
      | some (.cells row) => (true, [row.drop off = cs, closedL cs = true])
      | _ => (false, [])
    | _ => (false, [])
  | p => (true, [p = q, closed q = true])
theorem borV_ok {p q : PV} (h : (borV L p q).1 = true) (hp : ∀ a ∈ (borV L p q).2, a) : borrow L p = q ∧ borrowOk L p := by
  unfold borV at h hp
  split at h
  · rename_i id off n sz
    split at h
    · rename_i n' cs
      split at h
      · rename_i row hL
        simp only [hL] at hp
        have h1 := hp (off + n * sz ≤ row.length) (by simp)
        have h2 := hp (n = n') (by simp)
        have h3 := hp ((row.drop off).take (n * sz) = cs) (by simp)
        have h4 := hp (closedL cs = true) (by simp)
        have hs : slc L (.own id off n sz) = (off + n * sz ≤ row.length, n, (row.drop off).take (n * sz)) := by simp only [slc, hL]
        have hd : dro L 4 (.own id off n sz) = .ro n' cs := by
          simp only [dro, hs]
          rw [h3, (map_dro h4).1, h2]
        refine ⟨by simp only [borrow, closed, cond_false]; exact hd, .inr ⟨?_, by rw [hd]; simpa [closed] using h4⟩⟩
        simp only [droOk, hs]
        exact ⟨h1, by rw [h3]; exact (map_dro h4).2⟩
      · cases h
    · cases h
  · rename_i id off
    split at h
    · rename_i cs
      split at h
      · rename_i row hL
        simp only [hL] at hp
        have h1 := hp (row.drop off = cs) (by simp)
        have h2 := hp (closedL cs = true) (by simp)
        have hd : dro L 4 (.ptr id off) = .rptr cs := by simp only [dro, hL]; rw [h1]
        exact ⟨by simp only [borrow, closed, cond_false]; exact hd, .inr ⟨by simp [droOk], by rw [hd]; simpa [closed] using h2⟩⟩
      · cases h
    · cases h
  · have h1 := hp (p = q) (by simp)
    have h2 := hp (closed q = true) (by simp)
    subst h1
    exact ⟨by simp only [borrow, h2, cond_true], .inl h2⟩
def borL (L : LH) : List PV → List PV → Bool × List Prop
  | [], [] => (true, [])
  | p :: ps, q :: qs => both (borV L p q) (borL L ps qs)
  | _, _ => (false, [])
theorem borL_ok : ∀ {ps qs : List PV}, (borL L ps qs).1 = true → (∀ a ∈ (borL L ps qs).2, a) → ps.map (borrow L) = qs ∧ ∀ p ∈ ps, borrowOk L p
  | [], [], _, _ => ⟨rfl, by simp⟩
  | [], _ :: _, h, _ => by cases h
  | _ :: _, [], h, _ => by cases h
  | p :: ps, q :: qs, h, hp => by
    obtain ⟨h1, h2⟩ := both_ok h hp
    obtain ⟨e1, e2⟩ := borV_ok h1.1 h1.2
    obtain ⟨e3, e4⟩ := borL_ok h2.1 h2.2
    refine ⟨by rw [List.map_cons, e1, e3], fun x hx => ?_⟩
    rcases List.mem_cons.1 hx with rfl | hx
    · exact e2
    · exact e4 x hx
def xAd (dr : Bool) (r : PV) (L : LH) (k : PV → LH → Prop) : Prop := fV (adopt dr r L).1 fun v => fL (adopt dr r L).2 fun L' => k v L'
theorem xAd_eq {dr : Bool} {r : PV} {k : PV → LH → Prop} : xAd dr r L k = k (adopt dr r L).1 (adopt dr r L).2 := by rw [xAd, fV_eq, fL_eq]
def xCall (P : Program) (dr : Bool) (g : FuncId) (args : List PV) (s : Scr) (L : LH) (k : Scr → PV → LH → Prop) : Prop :=
  match strip s with
  | .c r s => match closedL args with
    | true => CallR P g args r ∧ xAd dr r L (k s)
    | false => False
  | .k qs r s => match (borL L args qs).1 with
    | true => conj (borL L args qs).2 ((closedL args = true ∨ flat r = true) ∧ CallR P g qs r ∧ xAd dr r L (k s))
    | false => False
  | .x r s => CallE P g args r ∧ k s r L
  | .t r L' s => match dr with
    | false => CallS P g args L r L' ∧ fL L' fun L' => k s r L'
    | true => False
  | _ => False
theorem map_borrow {ps : List PV} (h : closedL ps = true) : ps.map (borrow L) = ps ∧ ∀ p ∈ ps, borrowOk L p := by
  have hc := closedL_iff.1 h
  refine ⟨?_, fun p hp => .inl (hc p hp)⟩
  rw [List.map_congr_left (g := id) (fun q hq => by simp only [borrow, hc q hq, cond_true, id]), List.map_id]
theorem xCall_ok {dr : Bool} {g : FuncId} {args : List PV} {s : Scr} {k : Scr → PV → LH → Prop} (h : xCall P dr g args s L k) :
    ∃ Γ' s' v L', GammaOk P Γ' ∧ ((callF Γ' dr g args L).pre ∧ v = (callF Γ' dr g args L).val ∧ L' = (callF Γ' dr g args L).L) ∧ k s' v L' := by
  unfold xCall at h
  split at h
  · rename_i r s _
    split at h
    · rename_i hc
      obtain ⟨h1, h2⟩ := h
      rw [xAd_eq] at h2
      refine ⟨oneCon g (.pure fun a => (a = args, r)), s, _, _, oneCon_ok h1, ?_, h2⟩
      simp only [callF, oneCon_tab, pureF, (map_borrow (L := L) hc).1]
      exact ⟨⟨trivial, (map_borrow hc).2, .inl hc⟩, trivial, trivial⟩
    · exact h.elim
  · rename_i qs r s _
    split at h
    · rename_i hb
      obtain ⟨h1, h2, h3, h4⟩ := conj_eq h
      rw [xAd_eq] at h4
      obtain ⟨e1, e2⟩ := borL_ok hb h1
      refine ⟨oneCon g (.pure fun a => (a = qs, r)), s, _, _, oneCon_ok h3, ?_, h4⟩
      simp only [callF, oneCon_tab, pureF, e1]
      exact ⟨⟨trivial, e2, h2⟩, trivial, trivial⟩
    · exact h.elim
  · rename_i r s _
    refine ⟨oneCon g (.ext fun a => (a = args, r)), s, r, L, oneCon_ok h.1, ?_, h.2⟩
    simp only [callF, oneCon_tab]
    exact ⟨trivial, trivial, trivial⟩
  · rename_i r L' s _
    split at h
    · rw [fL_eq] at h
      refine ⟨oneCon g (.st fun a K => ⟨a = args ∧ K = L, r, L'⟩), s, r, L', oneCon_ok h.1, ?_, h.2⟩
      simp only [callF, oneCon_tab, cond_false]
      exact ⟨⟨trivial, trivial⟩, trivial, trivial⟩
    · exact h.elim
  · exact h.elim
def xBox (v : PV) (L : LH) (k : PV → LH → Prop) : Prop :=
  match v with
  | .agg cs => fN L.length fun n => fL (L ++ [.cells cs]) fun L' => k (.ptr n 0) L'
  | v => fN L.length fun n => fL (L ++ [.cells v.cells]) fun L' => k (.ptr n 0) L'
theorem xBox_eq {v : PV} {k : PV → LH → Prop} : xBox v L k = k (.ptr L.length 0) (L ++ [.cells v.cells]) := by
  unfold xBox
  split <;> rw [fN_eq, fL_eq] <;> rfl
def xStore (P : Program) (t : TypeId) (a v : PV) (L : LH) (k : LH → Prop) : Prop :=
  match storeB P false t a v L with
  | true => match a with
    | .ptr id off => match L[id]? with
      | some (.cells cs) => match v with
        | .agg vs => fL (L.set id (.cells (splice cs off vs))) k
        | v => fL (L.set id (.cells (splice cs off v.cells))) k
      | _ => False
    | _ => False
  | false => False
theorem xStore_ok {t : TypeId} {a v : PV} {k : LH → Prop} (h : xStore P t a v L k) : (storeF P false t a v L).pre ∧ (storeF P false t a v L).val = .lit undef ∧ k (storeF P false t a v L).L := by
  unfold xStore at h
  split at h
  · rename_i hb
    have hp := storeB_pre hb
    split at h
    · split at h
      · rename_i id off cs hL
        refine ⟨hp, ?_⟩
        unfold storeB at hb
        unfold storeF
        cases hT : tyOf P t with
        | none => rw [hT] at hb; cases hb
        | some T =>
          simp only [hL]
          split at h
          · rw [fL_eq] at h; exact ⟨trivial, h⟩
          · rw [fL_eq] at h; exact ⟨trivial, h⟩
      · exact h.elim
    · exact h.elim
  · exact h.elim
def xOp (P : Program) (dr : Bool) (o : Op) (s : Scr) (env : Env) (L : LH) (k : Scr → Env → PV → LH → Prop) : Prop :=
  match o with
  | .pick c a b => match evalIn env c with
    | .lit (.bool t) => match strip s, c with
      | .f s1 s2, .tmp g => (t = true → fV (evalIn env a) fun v => k s1 (setB env g true) v L) ∧ (t = false → fV (evalIn env b) fun v => k s2 (setB env g false) v L)
      | s, _ => match t with
        | true => fV (evalIn env a) fun v => k (dec s) env v L
        | false => fV (evalIn env b) fun v => k (dec s) env v L
    | _ => False
  | .call c => match c.callee with
    | .value (.func g) => xCall P dr g (c.args.toList.map (evalIn env)) s L fun s v L' => k s env v L'
    | _ => xPlain P dr (.call c) s env L fun s v L' => k s env v L'
  | .box t x => match dr, strip s with
    | false, .d (n + 1) s => fV (evalIn env x) fun v => match v.cells.all PV.one with
      | true => xBox v L fun v L' => k (.d n s) env v L'
      | false => False
    | false, .e => fV (evalIn env x) fun v => match v.cells.all PV.one with
      | true => xBox v L fun v L' => k .e env v L'
      | false => False
    | dr, s => xPlain P dr (.box t x) s env L fun s v L' => k s env v L'
  | .store t a x => match dr, strip s with
    | false, .d (n + 1) s => fV (evalIn env x) fun v => xStore P t (evalIn env a) v L fun L' => k (.d n s) env (.lit undef) L'
    | false, .e => fV (evalIn env x) fun v => xStore P t (evalIn env a) v L fun L' => k .e env (.lit undef) L'
    | dr, s => xPlain P dr (.store t a x) s env L fun s v L' => k s env v L'
  | o => xPlain P dr o s env L fun s v L' => k s env v L'
theorem xOp_ok {dr : Bool} {all : List Oper} {o : Oper} {s : Scr} {k : Scr → Env → PV → LH → Prop} (hg : GuardIs all env o true) (h : xOp P dr o.op s env L k) :
    ∃ s' v L', stepV P Γ dr all o env L v L' ∧ k s' env v L' := by
  unfold xOp at h
  split at h
  · rename_i c a b hop
    split at h
    · rename_i t hc
      split at h
      · rename_i g hs
        simp only [evalIn] at hc
        cases t with
        | true =>
          have := h.1 rfl
          rw [fV_eq, setB_eq hc] at this
          exact ⟨_, _, L, ⟨noCon, noCon_ok, .inl ⟨hg, .inl ⟨_, a, b, true, hop, hc, rfl, rfl⟩⟩⟩, this⟩
        | false =>
          have := h.2 rfl
          rw [fV_eq, setB_eq hc] at this
          exact ⟨_, _, L, ⟨noCon, noCon_ok, .inl ⟨hg, .inl ⟨_, a, b, false, hop, hc, rfl, rfl⟩⟩⟩, this⟩
      · cases t with
        | true =>
          rw [fV_eq] at h
          exact ⟨_, _, L, ⟨noCon, noCon_ok, .inl ⟨hg, .inl ⟨_, a, b, true, hop, hc, rfl, rfl⟩⟩⟩, h⟩
        | false =>
          simp only [fV_eq] at h
          exact ⟨_, _, L, ⟨noCon, noCon_ok, .inl ⟨hg, .inl ⟨_, a, b, false, hop, hc, rfl, rfl⟩⟩⟩, h⟩
    · exact h.elim
  · rename_i c hop
    split at h
    · rename_i g hcl
      obtain ⟨Γ', s', v, L', hΓ', hr, hk⟩ := xCall_ok h
      refine ⟨s', v, L', ⟨Γ', hΓ', .inl ⟨hg, .inr ?_⟩⟩, hk⟩
      have e : opF P Γ' dr (evalIn env) L o.op = callF Γ' dr g (c.args.toList.map (evalIn env)) L := by
        rw [hop]; simp only [opF, hcl]
      rw [e]; exact hr
    · obtain ⟨s', v, L', hr, hk⟩ := xPlain_ok h
      exact ⟨s', v, L', ⟨noCon, noCon_ok, .inl ⟨hg, .inr (by rw [hop]; exact hr)⟩⟩, hk⟩
  · rename_i t x hop
    split at h
    · rename_i n s _
      rw [fV_eq] at h
      split at h
      · rename_i hb
        rw [xBox_eq] at h
        exact ⟨_, _, _, ⟨noCon, noCon_ok, .inl ⟨hg, .inr (by rw [hop]; exact ⟨hb, rfl, rfl⟩)⟩⟩, h⟩
      · exact h.elim
    · rw [fV_eq] at h
      split at h
      · rename_i hb
        rw [xBox_eq] at h
        exact ⟨_, _, _, ⟨noCon, noCon_ok, .inl ⟨hg, .inr (by rw [hop]; exact ⟨hb, rfl, rfl⟩)⟩⟩, h⟩
      · exact h.elim
    · obtain ⟨s', v, L', hr, hk⟩ := xPlain_ok h
      exact ⟨s', v, L', ⟨noCon, noCon_ok, .inl ⟨hg, .inr (by rw [hop]; exact hr)⟩⟩, hk⟩
  · rename_i t a x hop
    split at h
    · rename_i n s _
      rw [fV_eq] at h
      obtain ⟨h1, h2, h3⟩ := xStore_ok h
      exact ⟨_, _, _, ⟨noCon, noCon_ok, .inl ⟨hg, .inr (by rw [hop]; exact ⟨h1, h2.symm, rfl⟩)⟩⟩, h3⟩
    · rw [fV_eq] at h
      obtain ⟨h1, h2, h3⟩ := xStore_ok h
      exact ⟨_, _, _, ⟨noCon, noCon_ok, .inl ⟨hg, .inr (by rw [hop]; exact ⟨h1, h2.symm, rfl⟩)⟩⟩, h3⟩
    · obtain ⟨s', v, L', hr, hk⟩ := xPlain_ok h
      exact ⟨s', v, L', ⟨noCon, noCon_ok, .inl ⟨hg, .inr (by rw [hop]; exact hr)⟩⟩, hk⟩
  · obtain ⟨s', v, L', hr, hk⟩ := xPlain_ok h
    exact ⟨s', v, L', ⟨noCon, noCon_ok, .inl ⟨hg, .inr hr⟩⟩, hk⟩
def xPre : Scr → Env → LH → (Scr → Env → LH → Prop) → Prop
  | .d 0 s, env, L, k => xPre s env L k
  | .z t cs s, env, L, k => match lookup env t with
    | .own id off n sz => match L[id]? with
      | some (.cells row) => off + n * sz ≤ row.length ∧ (row.drop off).take (n * sz) = cs ∧ closedL cs = true ∧ fL (L.set id .dead) fun L' => xPre s ((t, .ro n cs) :: env) L' k
      | _ => False
    | .ptr id 0 => match L[id]? with
      | some (.cells row) => row = cs ∧ closedL cs = true ∧ fL (L.set id .dead) fun L' => xPre s ((t, .rptr cs) :: env) L' k
      | _ => False
    | _ => False
  | .r id cs s, env, L, k => match L[id]? with
    | some (.cells row) => row = cs ∧ fL (L.set id (.cells cs)) fun L' => xPre s env L' k
    | _ => False
  | s, env, L, k => k s env L
theorem set_self {L : LH} {id : Nat} {x : LE} (h : L[id]? = some x) : L.set id x = L := by
  apply List.ext_getElem?
  intro i
  rw [List.getElem?_set]
  split
  · rename_i e; subst e
    split
    · exact h.symm
    · rename_i hl; rw [List.getElem?_eq_none (by omega)]
  · rfl
theorem xPre_ok {all ops : List Oper} {R : Env → LH → Prop} {K : Scr → Env → LH → Prop} (hK : ∀ s env L, K s env L → ∃ env' L', LRun P Γ all ops env L env' L' ∧ R env' L') :
    ∀ {s : Scr} {env : Env} {L : LH}, xPre s env L K → ∃ env' L', LRun P Γ all ops env L env' L' ∧ R env' L' := by
  intro s
  induction s with
  | d n s ih =>
    intro env L h
    cases n with
    | zero => exact ih h
    | succ n => exact hK _ _ _ h
  | z t cs s ih =>
    intro env L h
    simp only [xPre] at h
    split at h
    · rename_i id off n sz hl
      split at h
      · rename_i row hL
        obtain ⟨h1, h2, h3, h4⟩ := h
        rw [fL_eq] at h4
        obtain ⟨env', L', h5, h6⟩ := ih h4
        have hs : slc L (.own id off n sz) = (off + n * sz ≤ row.length, n, cs) := by simp only [slc, hL, h2]
        exact ⟨env', L', .freeze hl (by rw [hs]; exact h1) (by rw [hs]; exact h3) (by rw [hs]; exact h5), h6⟩
      · exact h.elim
    · rename_i id hl
      split at h
      · rename_i row hL
        obtain ⟨h1, h2, h3⟩ := h
        rw [fL_eq] at h3
        obtain ⟨env', L', h5, h6⟩ := ih h3
        subst h1
        exact ⟨env', L', .freezep hl hL h2 h5, h6⟩
      · exact h.elim
    · exact h.elim
  | r id cs s ih =>
    intro env L h
    simp only [xPre] at h
    split at h
    · rename_i row hL
      obtain ⟨rfl, h2⟩ := h
      rw [fL_eq, set_self hL] at h2
      exact ih h2
    · exact h.elim
  | _ => intro env L h; exact hK _ _ _ h
def xStep (P : Program) (dr : Bool) (all : List Oper) (o : Oper) (s : Scr) (env : Env) (L : LH) (k : Scr → Env → PV → LH → Prop) : Prop :=
  xGuard all o.guard s env fun run s env => match run with
    | true => xOp P dr o.op s env L k
    | false => k (dec (strip s)) env (.lit undef) L
theorem xStep_ok {dr : Bool} {all : List Oper} {o : Oper} {s : Scr} {k : Scr → Env → PV → LH → Prop} (h : xStep P dr all o s env L k) :
    ∃ s' v L', stepV P Γ dr all o env L v L' ∧ k s' env v L' := by
  obtain ⟨b, s', hg, h⟩ := xGuard_ok h
  cases b with
  | true => exact xOp_ok hg h
  | false => exact ⟨_, _, L, ⟨noCon, noCon_ok, .inr ⟨hg, rfl, rfl⟩⟩, h⟩
def xSeq (P : Program) (all : List Oper) : List Oper → Scr → Env → LH → (Scr → Env → LH → Prop) → Prop
  | [], s, env, L, k => xPre s env L k
  | o :: r, s, env, L, k => xPre s env L fun s env L => xStep P false all o s env L fun s env v L' => fP env o.dst v fun env => xSeq P all r s env L' k
theorem xSeq_ok {all : List Oper} {k : Scr → Env → LH → Prop} : ∀ {ops : List Oper} {s : Scr} {env : Env} {L : LH}, xSeq P all ops s env L k → ∃ env' L', LRun P Γ all ops env L env' L' ∧ ∃ s', k s' env' L'
  | [], s, env, L, h => xPre_ok (R := fun env' L' => ∃ s', k s' env' L') (fun s env L h => ⟨env, L, .nil, s, h⟩) h
  | o :: r, s, env, L, h => xPre_ok (R := fun env' L' => ∃ s', k s' env' L') (fun s env L h => by
      obtain ⟨s', v, L1, h1, h2⟩ := xStep_ok (Γ := Γ) h
      rw [fP_eq] at h2
      obtain ⟨env', L', h3, h4⟩ := xSeq_ok h2
      exact ⟨env', L', .cons h1 h3, h4⟩) h
def xPreR : Scr → LH → (Scr → LH → Prop) → Prop
  | .d 0 s, L, k => xPreR s L k
  | .r id cs s, L, k => match L[id]? with
    | some (.cells row) => row = cs ∧ fL (L.set id (.cells cs)) fun L' => xPreR s L' k
    | _ => False
  | s, L, k => k s L
theorem xPreR_ok {K : Scr → LH → Prop} : ∀ {s : Scr} {L : LH}, xPreR s L K → ∃ s', K s' L := by
  intro s
  induction s with
  | d n s ih =>
    intro L h
    cases n with
    | zero => exact ih h
    | succ n => exact ⟨_, h⟩
  | r id cs s ih =>
    intro L h
    simp only [xPreR] at h
    split at h
    · rename_i row hL
      obtain ⟨rfl, h2⟩ := h
      rw [fL_eq, set_self hL] at h2
      exact ih h2
    · exact h.elim
  | _ => intro L h; exact ⟨_, h⟩
def xAny (P : Program) (all : List Oper) : List Oper → Scr → Env → LH → (Scr → Env → LH → Prop) → Prop
  | [], s, env, L, k => xPreR s L fun s L => k s env L
  | o :: r, s, env, L, k => xPreR s L fun s L => xStep P (md o.op) all o s env L fun s env v L' => fP env o.dst v fun env => xAny P all r s env L' k
theorem xAny_ok {all : List Oper} {k : Scr → Env → LH → Prop} : ∀ {ops : List Oper} {s : Scr} {env : Env} {L : LH}, xAny P all ops s env L k → ∃ env' L', ARun P Γ all ops env L env' L' ∧ ∃ s', k s' env' L'
  | [], s, env, L, h => by
    obtain ⟨s', h⟩ := xPreR_ok h
    exact ⟨env, L, ⟨rfl, rfl⟩, s', h⟩
  | o :: r, s, env, L, h => by
    obtain ⟨s0, h⟩ := xPreR_ok h
    obtain ⟨s', v, L1, h1, h2⟩ := xStep_ok (Γ := Γ) h
    rw [fP_eq] at h2
    obtain ⟨env', L', h3, h4⟩ := xAny_ok h2
    exact ⟨env', L', ⟨v, L1, h1, h3⟩, h4⟩
end Go.Ab
