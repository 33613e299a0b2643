import Derived.Test.YtakffanafcidbaaAbM
namespace Go.Ab
open Go Go.RowKit
set_option linter.unusedVariables false
set_option linter.unusedSimpArgs false

variable {P : Program} {Γ : Con} {L L' : LH} {env : Env} {draw : Bool} {all r : List Oper} {o : Oper} {k : Env → LH → Prop} {pre : Prop} {val : PV} {d : Nat}

def isPick : Op → Bool
  | .pick _ _ _ => true
  | _ => false

/-- The ways through a region. -/
def vOps (P : Program) (Γ : Con) (draw : Bool) (all ops : List Oper) (env : Env) (L : LH) (k : Env → LH → Prop) : Prop :=
  match draw with
  | false => lOps P Γ all ops env L k
  | true => dOps P Γ all ops env L k

theorem vOps_nil (h : k env L) : vOps P Γ draw all [] env L k := by
  cases draw
  · exact ⟨env, L, .nil, h⟩
  · exact ⟨env, L, ⟨rfl, rfl⟩, h⟩

theorem vOps_step {v : PV} {L1 : LH} (hs : stepV P Γ draw all o env L v L1) (h : vOps P Γ draw all r (putIn env o.dst v) L1 k) : vOps P Γ draw all (o :: r) env L k := by
  cases draw
  · obtain ⟨env', L', h1, h2⟩ := h
    exact ⟨env', L', .cons hs h1, h2⟩
  · obtain ⟨env', L', h1, h2⟩ := h
    exact ⟨env', L', ⟨v, L1, hs, h1⟩, h2⟩

theorem vOps_freeze {ops : List Oper} {id off n sz t : Nat} {cs : List PV} (hl : lookup env t = .own id off n sz) (hs : slc L (.own id off n sz) = (pre, n, cs)) (hok : pre) (hc : closedL cs = true)
    (h : vOps P Γ false all ops ((t, .ro n cs) :: env) (L.set id .dead) k) : vOps P Γ false all ops env L k := by
  obtain ⟨env', L', h1, h2⟩ := h
  exact ⟨env', L', .freeze hl (by rw [hs]; exact hok) (by rw [hs]; exact hc) (by rw [hs]; exact h1), h2⟩

theorem vOps_op (hg : o.guard = none) (hd : o.dst = some d) (_hnp : isPick o.op = false) (hop : opF P Γ draw (evalIn env) L o.op = ⟨pre, val, L'⟩) (hp : pre) (h : vOps P Γ draw all r ((d, val) :: env) L' k) : vOps P Γ draw all (o :: r) env L k :=
  vOps_step (v := val) (L1 := L') (.inl ⟨.inl ⟨hg, rfl⟩, .inr ⟨by rw [hop]; exact hp, by rw [hop], by rw [hop]⟩⟩) (by rw [hd]; exact h)

theorem vOps_st (hg : o.guard = none) (hd : o.dst = none) (_hnp : isPick o.op = false) (hop : opF P Γ draw (evalIn env) L o.op = ⟨pre, val, L'⟩) (hp : pre) (h : vOps P Γ draw all r env L' k) : vOps P Γ draw all (o :: r) env L k :=
  vOps_step (v := val) (L1 := L') (.inl ⟨.inl ⟨hg, rfl⟩, .inr ⟨by rw [hop]; exact hp, by rw [hop], by rw [hop]⟩⟩) (by rw [hd]; exact h)

theorem vOps_gop {j g : Nat} {want : Bool} (hg : o.guard = some (j, want)) (hj : (all[j]?).bind (·.dst) = some g) (hl : lookup env g = .lit (.bool want)) (hd : o.dst = some d) (_hnp : isPick o.op = false) (hop : opF P Γ draw (evalIn env) L o.op = ⟨pre, val, L'⟩) (hp : pre) (h : vOps P Γ draw all r ((d, val) :: env) L' k) : vOps P Γ draw all (o :: r) env L k :=
  vOps_step (v := val) (L1 := L') (.inl ⟨.inr ⟨j, want, g, hg, hj, .inl ⟨want, hl, by simp⟩⟩, .inr ⟨by rw [hop]; exact hp, by rw [hop], by rw [hop]⟩⟩) (by rw [hd]; exact h)

theorem vOps_gst {j g : Nat} {want : Bool} (hg : o.guard = some (j, want)) (hj : (all[j]?).bind (·.dst) = some g) (hl : lookup env g = .lit (.bool want)) (hd : o.dst = none) (_hnp : isPick o.op = false) (hop : opF P Γ draw (evalIn env) L o.op = ⟨pre, val, L'⟩) (hp : pre) (h : vOps P Γ draw all r env L' k) : vOps P Γ draw all (o :: r) env L k :=
  vOps_step (v := val) (L1 := L') (.inl ⟨.inr ⟨j, want, g, hg, hj, .inl ⟨want, hl, by simp⟩⟩, .inr ⟨by rw [hop]; exact hp, by rw [hop], by rw [hop]⟩⟩) (by rw [hd]; exact h)

theorem vOps_pick {t : Bool} {c x y : Operand} (hg : o.guard = none) (hd : o.dst = some d) (hop : o.op = .pick c x y) (hc : evalIn env c = .lit (.bool t)) (hv : evalIn env (bif t then x else y) = val) (h : vOps P Γ draw all r ((d, val) :: env) L k) : vOps P Γ draw all (o :: r) env L k :=
  vOps_step (v := val) (L1 := L) (.inl ⟨.inl ⟨hg, rfl⟩, .inl ⟨c, x, y, t, hop, hc, by rw [← hv]; cases t <;> rfl, rfl⟩⟩) (by rw [hd]; exact h)

theorem vOps_gpick {j g : Nat} {want t : Bool} {c x y : Operand} (hg : o.guard = some (j, want)) (hj : (all[j]?).bind (·.dst) = some g) (hl : lookup env g = .lit (.bool want)) (hd : o.dst = some d) (hop : o.op = .pick c x y) (hc : evalIn env c = .lit (.bool t)) (hv : evalIn env (bif t then x else y) = val) (h : vOps P Γ draw all r ((d, val) :: env) L k) : vOps P Γ draw all (o :: r) env L k :=
  vOps_step (v := val) (L1 := L) (.inl ⟨.inr ⟨j, want, g, hg, hj, .inl ⟨want, hl, by simp⟩⟩, .inl ⟨c, x, y, t, hop, hc, by rw [← hv]; cases t <;> rfl, rfl⟩⟩) (by rw [hd]; exact h)

theorem vOps_gskip {j g : Nat} {want b : Bool} (hg : o.guard = some (j, want)) (hj : (all[j]?).bind (·.dst) = some g) (hl : lookup env g = .lit (.bool b)) (hb : (b == want) = false) (h : vOps P Γ draw all r (putIn env o.dst (.lit undef)) L k) : vOps P Γ draw all (o :: r) env L k :=
  vOps_step (v := .lit undef) (L1 := L) (.inr ⟨.inr ⟨j, want, g, hg, hj, .inl ⟨b, hl, hb.symm⟩⟩, rfl, rfl⟩) h

theorem vOps_gundef {j g : Nat} {want : Bool} (hg : o.guard = some (j, want)) (hj : (all[j]?).bind (·.dst) = some g) (hl : lookup env g = .lit undef) (h : vOps P Γ draw all r (putIn env o.dst (.lit undef)) L k) : vOps P Γ draw all (o :: r) env L k :=
  vOps_step (v := .lit undef) (L1 := L) (.inr ⟨.inr ⟨j, want, g, hg, hj, .inr ⟨#[], hl, rfl⟩⟩, rfl, rfl⟩) h

/-- A test that is not decided yet, at a guard or a choice. -/
theorem vOps_fork {j g : Nat} {want b : Bool} (hg : o.guard = some (j, want)) (hj : (all[j]?).bind (·.dst) = some g) (hl : lookup env g = .lit (.bool b))
    (ht : b = true → vOps P Γ draw all (o :: r) env L k) (hf : b = false → vOps P Γ draw all (o :: r) env L k) : vOps P Γ draw all (o :: r) env L k := by
  cases b
  · exact hf rfl
  · exact ht rfl

theorem vOps_forkp {b : Bool} {c x y : Operand} (hop : o.op = .pick c x y) (hc : evalIn env c = .lit (.bool b))
    (ht : b = true → vOps P Γ draw all (o :: r) env L k) (hf : b = false → vOps P Γ draw all (o :: r) env L k) : vOps P Γ draw all (o :: r) env L k := by
  cases b
  · exact hf rfl
  · exact ht rfl

/-- What comes behind. -/
def seqC (P : Program) (Γ : Con) (y : Code) (k : Exit → Env → LH → Prop) : Exit → Env → LH → Prop := fun e env L => match e with
  | .normal => vC P Γ y env L k
  | e => k e env L
def blockC (id : Nat) (k : Exit → Env → LH → Prop) : Exit → Env → LH → Prop := fun e env L => match e with
  | .exit id' => if id' = id then k .normal env L else k (.exit id') env L
  | e => k e env L

theorem vC_seq {x y : Code} {k : Exit → Env → LH → Prop} (h : vC P Γ x env L (seqC P Γ y k)) : vC P Γ (.seq x y) env L k := by
  unfold vC
  exact h
theorem seqC_normal {y : Code} {k : Exit → Env → LH → Prop} (h : vC P Γ y env L k) : seqC P Γ y k .normal env L := h
theorem seqC_ret {y : Code} {k : Exit → Env → LH → Prop} (h : k .ret env L) : seqC P Γ y k .ret env L := h
theorem seqC_exit {y : Code} {id : Nat} {k : Exit → Env → LH → Prop} (h : k (.exit id) env L) : seqC P Γ y k (.exit id) env L := h
theorem blockC_normal {id : Nat} {k : Exit → Env → LH → Prop} (h : k .normal env L) : blockC id k .normal env L := h
theorem blockC_ret {id : Nat} {k : Exit → Env → LH → Prop} (h : k .ret env L) : blockC id k .ret env L := h
theorem blockC_hit {id : Nat} {k : Exit → Env → LH → Prop} (h : k .normal env L) : blockC id k (.exit id) env L := by simp [blockC]; exact h
theorem blockC_miss {id id' : Nat} {k : Exit → Env → LH → Prop} (hne : (id' == id) = false) (h : k (.exit id') env L) : blockC id k (.exit id') env L := by
  have : ¬ id' = id := by simpa using hne
  simp only [blockC, this, if_false]; exact h

theorem vC_region {id : Nat} {l : List Oper} {k : Exit → Env → LH → Prop} (h : vOps P Γ false l l env L (k .normal)) : vC P Γ (.region id l.toArray false) env L k := by
  unfold vC
  simpa [vOps] using h

theorem vC_draw {id : Nat} {l : List Oper} {k : Exit → Env → LH → Prop} (hd : drawOk l = true) (h : vOps P Γ true l l env L (k .normal)) : vC P Γ (.region id l.toArray true) env L k := by
  unfold vC
  obtain ⟨env', L', h1, h2⟩ := h
  refine ⟨l.length, by simpa using hd, by simpa using tail_all (all := l), env', L', by simpa using h1, env', L', ?_, h2⟩
  rw [List.drop_eq_nil_of_le (by simp)]
  exact .nil

/-- Where the first operation stands that writes. -/
def tailAt (l : List Oper) : Nat := l.findIdx fun o => match o.op with
  | .call c => match c.callee with
    | .builtin .append => true
    | .builtin .copy => true
    | _ => false
  | .store .. => true
  | _ => false

theorem vC_drawT {id : Nat} {l l1 l2 : List Oper} {k : Exit → Env → LH → Prop} (m : Nat) (hmm : (tailAt l == m) = true) (hlt : decide (m < l.length) = true) (hd : drawOk l = true) (ht : tailOk l m = true) (h1 : l.take m = l1) (h2 : l.drop m = l2) (h : vOps P Γ true l l1 env L (fun env1 L1 => vOps P Γ false l l2 env1 L1 (k .normal))) : vC P Γ (.region id l.toArray true) env L k := by
  subst h1 h2
  unfold vC
  exact ⟨m, by simpa using hd, by simpa using ht, by simpa [vOps] using h⟩

theorem vC_cond {c : Operand} {x y : Code} {t : Bool} {k : Exit → Env → LH → Prop} (hc : evalIn env c = .lit (.bool t)) (ht : t = true → vC P Γ x env L k) (hf : t = false → vC P Γ y env L k) : vC P Γ (.cond c x y) env L k := by
  unfold vC
  rw [hc]
  exact ⟨ht, hf⟩

theorem vC_block {id : Nat} {c : Code} {k : Exit → Env → LH → Prop} (h : vC P Γ c env L (blockC id k)) : vC P Γ (.block id c) env L k := by
  unfold vC
  exact h

theorem fin_1 {fn : Func} {rr p : PV} {x : ResultVar} {e : Exit} (he : e = .normal ∨ e = .ret) (hr : fn.results.toList = [x]) (hl : resOne P env L x = (pre, p)) (h0 : pre) (h1 : (shut L p).1) (h2 : (shut L p).2 = rr) : Fin P fn rr e env L := by
  refine ⟨he, ?_⟩
  rw [hr]
  simp only [resAll, resPV, hr, hl]
  exact ⟨⟨h0, trivial⟩, .inl ⟨h1, h2⟩⟩
theorem fin_2 {fn : Func} {rr p q : PV} {x y : ResultVar} {pre' : Prop} {e : Exit} (he : e = .normal ∨ e = .ret) (hr : fn.results.toList = [x, y]) (hl : resOne P env L x = (pre, p)) (hq : resOne P env L y = (pre', q)) (h0 : pre) (h0' : pre') (h1 : (shut L (.tup [p, q])).1) (h2 : (shut L (.tup [p, q])).2 = rr) : Fin P fn rr e env L := by
  refine ⟨he, ?_⟩
  rw [hr]
  simp only [resAll, resPV, hr, hl, hq, List.map]
  exact ⟨⟨h0, h0', trivial⟩, .inl ⟨h1, h2⟩⟩
theorem fin_3 {fn : Func} {rr p q s : PV} {x y z : ResultVar} {pre' pre'' : Prop} {e : Exit} (he : e = .normal ∨ e = .ret) (hr : fn.results.toList = [x, y, z]) (hl : resOne P env L x = (pre, p)) (hq : resOne P env L y = (pre', q)) (hs : resOne P env L z = (pre'', s)) (h0 : pre) (h0' : pre') (h0'' : pre'') (h1 : (shut L (.tup [p, q, s])).1) (h2 : (shut L (.tup [p, q, s])).2 = rr) : Fin P fn rr e env L := by
  refine ⟨he, ?_⟩
  rw [hr]
  simp only [resAll, resPV, hr, hl, hq, hs, List.map]
  exact ⟨⟨h0, h0', h0'', trivial⟩, .inl ⟨h1, h2⟩⟩
theorem resOne_tmp {t : Nat} : resOne P env L (.tmp t) = (True, lookup env t) := rfl

theorem shut_int {k : IntKind} {n : Int} : shut L (.lit (.int k n)) = (True, .lit (.int k n)) := by simp [shut, borrowOk, borrow, closed]
theorem shut_bool {b : Bool} : shut L (.lit (.bool b)) = (True, .lit (.bool b)) := by simp [shut, borrowOk, borrow, closed]
theorem shut_string {s : ByteArray} : shut L (.lit (.string s)) = (True, .lit (.string s)) := by simp [shut, borrowOk, borrow, closed]
theorem shut_lits {v : Value} {rs : List PV} (h : closedL rs = true) : shut L (.tup (.lit v :: rs)) = (True, .tup (.lit v :: rs)) := by
  have : closedL (.lit v :: rs) = true := by simp [closedL, closed, h]
  simp [shut, clrOk, clr, this]

theorem vC_skip {k : Exit → Env → LH → Prop} (h : k .normal env L) : vC P Γ .skip env L k := by unfold vC; exact h
theorem vC_exit {id : Nat} {k : Exit → Env → LH → Prop} (h : k (.exit id) env L) : vC P Γ (.exit id) env L k := by unfold vC; exact h
theorem vC_ret {k : Exit → Env → LH → Prop} (h : k .ret env L) : vC P Γ .ret env L k := by unfold vC; exact h
theorem vC_loop {c : Code} {k : Exit → Env → LH → Prop} (h : Ex P Γ (.loop c) env L k) : vC P Γ (.loop c) env L k := by unfold vC; exact h

theorem lookup_cons (i t : Nat) (p : PV) (r : Env) : lookup ((i, p) :: r) t = bif i == t then p else lookup r t := by
  have h : Nat.beq i t = (i == t) := by rw [Bool.eq_iff_iff, Nat.beq_eq, beq_iff_eq]
  simp only [lookup, h]
theorem lookup_nil (t : Nat) : lookup [] t = .any := rfl
theorem entry_nil (i : Nat) : entry i [] = [] := rfl
theorem entry_cons (i : Nat) (p : PV) (r : List PV) : entry i (p :: r) = (i, p) :: entry (i + 1) r := rfl
theorem evalIn_tmp (env : Env) (t : Nat) : evalIn env (.tmp t) = lookup env t := rfl
theorem evalIn_const (env : Env) (v : Value) : evalIn env (.const v) = .lit v := rfl
theorem evalIn_func (env : Env) (f : Nat) : evalIn env (.func f) = .fn (.func f) [] [] := rfl

section ints
variable {t : TypeId} {k : IntKind} {a b : Int}
theorem binF_add : binF P .add t (.lit (.int k a)) (.lit (.int k b)) L = ⟨True, .lit (.int k (k.wrap (a + b))), L⟩ := by simp [binF, binInt]
theorem binF_sub : binF P .sub t (.lit (.int k a)) (.lit (.int k b)) L = ⟨True, .lit (.int k (k.wrap (a - b))), L⟩ := by simp [binF, binInt]
theorem binF_mul : binF P .mul t (.lit (.int k a)) (.lit (.int k b)) L = ⟨True, .lit (.int k (k.wrap (a * b))), L⟩ := by simp [binF, binInt]
theorem binF_quo : binF P .quo t (.lit (.int k a)) (.lit (.int k b)) L = ⟨b ≠ 0, .lit (.int k (k.wrap (a.tdiv b))), L⟩ := by simp [binF, binInt]
theorem binF_rem : binF P .rem t (.lit (.int k a)) (.lit (.int k b)) L = ⟨b ≠ 0, .lit (.int k (a.tmod b)), L⟩ := by simp [binF, binInt]
theorem binF_lss : binF P .lss t (.lit (.int k a)) (.lit (.int k b)) L = ⟨True, .lit (.bool (decide (a < b))), L⟩ := by simp [binF, binInt]
theorem binF_leq : binF P .leq t (.lit (.int k a)) (.lit (.int k b)) L = ⟨True, .lit (.bool (decide (a ≤ b))), L⟩ := by simp [binF, binInt]
theorem binF_gtr : binF P .gtr t (.lit (.int k a)) (.lit (.int k b)) L = ⟨True, .lit (.bool (decide (b < a))), L⟩ := by simp [binF, binInt]
theorem binF_geq : binF P .geq t (.lit (.int k a)) (.lit (.int k b)) L = ⟨True, .lit (.bool (decide (b ≤ a))), L⟩ := by simp [binF, binInt]
theorem binF_eql : binF P .eql t (.lit (.int k a)) (.lit (.int k b)) L = ⟨True, .lit (.bool (decide (a = b))), L⟩ := by simp [binF, binInt]; rfl
theorem binF_neq : binF P .neq t (.lit (.int k a)) (.lit (.int k b)) L = ⟨True, .lit (.bool (decide (a ≠ b))), L⟩ := by simp [binF, binInt, bne]; rfl
theorem binF_and : binF P .and t (.lit (.int k a)) (.lit (.int k b)) L = ⟨True, .lit (.int k (k.wrap (BitVec.ofInt k.bits a &&& BitVec.ofInt k.bits b).toNat)), L⟩ := by simp [binF, binInt]
theorem binF_or : binF P .or t (.lit (.int k a)) (.lit (.int k b)) L = ⟨True, .lit (.int k (k.wrap (BitVec.ofInt k.bits a ||| BitVec.ofInt k.bits b).toNat)), L⟩ := by simp [binF, binInt]
theorem binF_xor : binF P .xor t (.lit (.int k a)) (.lit (.int k b)) L = ⟨True, .lit (.int k (k.wrap (BitVec.ofInt k.bits a ^^^ BitVec.ofInt k.bits b).toNat)), L⟩ := by simp [binF, binInt]
theorem binF_shl {k' : IntKind} : binF P .shl t (.lit (.int k a)) (.lit (.int k' b)) L = ⟨0 ≤ b, .lit (.int k (k.wrap (a * 2 ^ (min b.toNat k.bits)))), L⟩ := by simp [binF]
theorem binF_shr {k' : IntKind} : binF P .shr t (.lit (.int k a)) (.lit (.int k' b)) L = ⟨0 ≤ b, .lit (.int k (a.fdiv (2 ^ (min b.toNat k.bits)))), L⟩ := by simp [binF]
end ints

theorem binF_seql {t : TypeId} {a b : ByteArray} : binF P .eql t (.lit (.string a)) (.lit (.string b)) L = ⟨True, .lit (.bool (a.toList == b.toList)), L⟩ := by simp [binF, binStr]
theorem binF_sneq {t : TypeId} {a b : ByteArray} : binF P .neq t (.lit (.string a)) (.lit (.string b)) L = ⟨True, .lit (.bool (!(a.toList == b.toList))), L⟩ := by simp [binF, binStr]

theorem wrap_i64 {n : Int} (h1 : -9223372036854775808 ≤ n) (h2 : n ≤ 9223372036854775807) : IntKind.i64.wrap n = n := by rw [IntKind.wrap_i64]; omega
theorem wrap_u8 {n : Int} (h1 : 0 ≤ n) (h2 : n < 256) : IntKind.u8.wrap n = n := by simp [IntKind.wrap, IntKind.bits, IntKind.signed]; omega
theorem wrap_u16 {n : Int} (h1 : 0 ≤ n) (h2 : n < 65536) : IntKind.u16.wrap n = n := by simp [IntKind.wrap, IntKind.bits, IntKind.signed]; omega
theorem wrap_u32 {n : Int} (h1 : 0 ≤ n) (h2 : n < 4294967296) : IntKind.u32.wrap n = n := by simp [IntKind.wrap, IntKind.bits, IntKind.signed]; omega
theorem wrap_u64 {n : Int} (h1 : 0 ≤ n) (h2 : n < 18446744073709551616) : IntKind.u64.wrap n = n := by simp [IntKind.wrap, IntKind.bits, IntKind.signed]; omega

/-! Bytes. -/
theorem map_byteOf_bv (bs : List UInt8) : (bs.map bv).map byteOf = bs := by
  rw [List.map_map]
  conv => rhs; rw [← List.map_id bs]
  apply List.map_congr_left
  intro b _
  simp [bv, byteOf]
theorem closedL_bv (bs : List UInt8) : closedL (bs.map bv) = true := by
  rw [closedL_iff]; intro p hp; rw [List.mem_map] at hp; obtain ⟨b, _, rfl⟩ := hp; rfl
theorem flatL_bv (bs : List UInt8) : flatL (bs.map bv) = true := by
  rw [flatL_iff]; intro p hp; rw [List.mem_map] at hp; obtain ⟨b, _, rfl⟩ := hp; rfl
theorem one_bv (bs : List UInt8) : (bs.map bv).all PV.one = true := by
  rw [List.all_eq_true]; intro p hp; rw [List.mem_map] at hp; obtain ⟨b, _, rfl⟩ := hp; rfl
theorem isByte_bv (bs : List UInt8) : (∀ p ∈ bs.map bv, isByte p) ↔ True := by
  simp only [iff_true]; intro p hp; rw [List.mem_map] at hp; obtain ⟨b, _, rfl⟩ := hp; trivial
theorem getD_bv (bs : List UInt8) (i : Nat) : (bs.map bv).getD i (.lit (.int .u8 0)) = bv (bs.getD i 0) := by
  simp only [List.getD_eq_getElem?_getD, List.getElem?_map]
  cases bs[i]? <;> rfl

/-- A row of bytes: every cell is a byte, and there are as many as the length says. -/
def isB (n : Nat) (cs : List PV) : Prop := n = cs.length ∧ ∃ bs : List UInt8, cs = bs.map bv
theorem isB_out {n : Nat} {cs : List PV} (h : isB n cs) : ∃ bs : List UInt8, n = bs.length ∧ cs = bs.map bv := by
  obtain ⟨rfl, bs, rfl⟩ := h
  exact ⟨bs, by simp, rfl⟩
theorem isB_bv (bs : List UInt8) : isB bs.length (bs.map bv) ↔ True := by simp only [iff_true]; exact ⟨by simp, bs, rfl⟩

end Go.Ab
namespace Go.Ab
open Go Go.RowKit
set_option linter.unusedVariables false
set_option linter.unusedSimpArgs false
variable {P : Program} {Γ : Con} {L L' : LH} {env : Env} {draw : Bool} {all r : List Oper} {o : Oper} {k : Env → LH → Prop} {pre : Prop} {val : PV} {d : Nat}

/-- The first part that is a row of the call's own. -/
def firstOwn (env : Env) : List (Nat × Operand) → Option Nat
  | [] => none
  | (_, .tmp t) :: r => match lookup env t with
    | .own _ _ _ _ => some t
    | _ => firstOwn env r
  | _ :: r => firstOwn env r

theorem vOps_frz {T n0 : Nat} {parts : Array (Nat × Operand)} {id off n sz t : Nat} {cs : List PV} (_ho : o.op = .buildSlice T n0 parts) (_hf : firstOwn env parts.toList = some t) (hl : lookup env t = .own id off n sz) (hs : slc L (.own id off n sz) = (pre, n, cs)) (hok : pre) (hc : closedL cs = true)
    (h : vOps P Γ false all (o :: r) ((t, .ro n cs) :: env) (L.set id .dead) k) : vOps P Γ false all (o :: r) env L k := vOps_freeze hl hs hok hc h

theorem slc_bytes {id : Nat} {bs : List UInt8} (h : L[id]? = some (.cells (bs.map bv))) : slc L (.own id 0 bs.length 1) = (True, bs.length, bs.map bv) := by
  have : (bs.map bv).take bs.length = bs.map bv := List.take_of_length_le (by simp)
  simp [slc, h, this]
theorem slc_ro {n : Nat} {cs : List PV} : slc L (.ro n cs) = (True, n, cs) := rfl
theorem slc_nil : slc L (.lit (.slice none 0 0)) = (True, 0, []) := rfl
/-- A row just made: all of its cells. -/
theorem slc_all {id n sz : Nat} {cs : List PV} (h : L[id]? = some (.cells cs)) (hn : n * sz = cs.length) : slc L (.own id 0 n sz) = (True, n, cs) := by
  simp [slc, h, hn]

theorem rep_zero (z : Value) : rep 0 z = [] := rfl
theorem rep_u8 (n : Nat) : rep n (.int .u8 0) = (List.replicate n (0 : UInt8)).map bv := by
  induction n with
  | zero => rfl
  | succ n ih => simp only [rep, List.replicate_succ, List.flatten_cons, List.map_cons] at ih ⊢; rw [ih]; rfl

theorem fresh_own {n sz : Nat} {cs : List PV} : fresh false n sz cs L = (.own L.length 0 n sz, L ++ [.cells cs]) := rfl
theorem fresh_ro {n sz : Nat} {cs : List PV} : fresh true n sz cs L = (.ro n cs, L) := rfl

def RenEnv (m : List Nat) (env : Env) : Env → Prop
  | [] => True
  | (t, q) :: r => RenOk m (lookup env t) q ∧ RenEnv m env r
def RenRows (L : LH) : List Nat → LH → Prop
  | [], [] => True
  | i :: m, .dead :: L2 => RenRows L m L2
  | i :: m, .cells cs :: L2 => (L[i]? = some (.cells cs) ∧ closedL cs = true) ∧ RenRows L m L2
  | _, _ => False

theorem weak_mk {m : List Nat} {env2 : Env} {L2 : LH} (h1 : m.Nodup) (h2 : ∀ i ∈ m, i < L.length) (h3 : RenRows L m L2) (h4 : RenEnv m env env2) : Weak m env L env2 L2 := by
  have hr : ∀ (m : List Nat) (L2 : LH), RenRows L m L2 → L2.length = m.length ∧ ∀ (k i : Nat) cs, m[k]? = some i → L2[k]? = some (.cells cs) → L[i]? = some (.cells cs) ∧ closedL cs = true := by
    intro m
    induction m with
    | nil => intro L2 h; cases L2 with
      | nil => exact ⟨rfl, fun k i cs h => by simp at h⟩
      | cons _ _ => exact h.elim
    | cons i m ih =>
      intro L2 h
      cases L2 with
      | nil => exact h.elim
      | cons x L2 =>
        cases x with
        | dead =>
          obtain ⟨e1, e2⟩ := ih L2 h
          refine ⟨by simp [e1], fun k j cs hk hL => ?_⟩
          cases k with
          | zero => simp at hL
          | succ k => exact e2 k j cs (by simpa using hk) (by simpa using hL)
        | cells cs0 =>
          obtain ⟨h5, h6⟩ := h
          obtain ⟨e1, e2⟩ := ih L2 h6
          refine ⟨by simp [e1], fun k j cs hk hL => ?_⟩
          cases k with
          | zero => simp at hk hL; subst hk hL; exact h5
          | succ k => exact e2 k j cs (by simpa using hk) (by simpa using hL)
  have he : ∀ env2, RenEnv m env env2 → ∀ x ∈ env2, RenOk m (lookup env x.1) x.2 := by
    intro env2
    induction env2 with
    | nil => intro _ x hx; simp at hx
    | cons y env2 ih =>
      intro h x hx
      obtain ⟨t, q⟩ := y
      rcases List.mem_cons.1 hx with rfl | hx
      · exact h.1
      · exact ih h.2 x hx
  exact ⟨h1, h2, (hr m L2 h3).1, (hr m L2 h3).2, he env2 h4⟩

theorem ren_keep {m : List Nat} {p : PV} (h : closed p = true) : RenOk m p p := .inr (.inl ⟨h, rfl⟩)
theorem ren_eq {m : List Nat} {p q : PV} (h : closed p = true) (e : p = q) : RenOk m p q := e ▸ ren_keep h
theorem ren_int {m : List Nat} {k : IntKind} {a b : Int} (e : a = b) : RenOk m (.lit (.int k a)) (.lit (.int k b)) := ren_eq rfl (by rw [e])
theorem ren_own {m : List Nat} {id k off n n' sz : Nat} (hk : m[k]? = some id) (hn : n = n') : RenOk m (.own id off n sz) (.own k off n' sz) := .inr (.inr (.inl ⟨id, k, off, n, sz, rfl, hk, by rw [hn]⟩))
theorem ren_ptr {m : List Nat} {id k off : Nat} (hk : m[k]? = some id) : RenOk m (.ptr id off) (.ptr k off) := .inr (.inr (.inr ⟨id, k, off, rfl, hk, rfl⟩))

def loopC {ι : Type} (I : ι → Env × LH) (μ : ι → Nat) (x : ι) (k : Exit → Env → LH → Prop) : Exit → Env → LH → Prop := fun e env' L' => match e with
  | .normal => ∃ y m, μ y < μ x ∧ Weak m env' L' (I y).1 (I y).2
  | e => k e env' L'

theorem loopC_normal {ι : Type} {I : ι → Env × LH} {μ : ι → Nat} {x : ι} {k : Exit → Env → LH → Prop} (y : ι) (m : List Nat) (h1 : μ y < μ x) (h2 : Weak m env L (I y).1 (I y).2) : loopC I μ x k .normal env L := ⟨y, m, h1, h2⟩
theorem loopC_ret {ι : Type} {I : ι → Env × LH} {μ : ι → Nat} {x : ι} {k : Exit → Env → LH → Prop} (h : k .ret env L) : loopC I μ x k .ret env L := h
theorem loopC_exit {ι : Type} {I : ι → Env × LH} {μ : ι → Nat} {x : ι} {id : Nat} {k : Exit → Env → LH → Prop} (h : k (.exit id) env L) : loopC I μ x k (.exit id) env L := h

/-- Loops whose state is known from an index. -/
theorem vC_loopI {c : Code} {ι : Type} {k : Exit → Env → LH → Prop} (I : ι → Env × LH) (μ : ι → Nat) (x : ι) (m : List Nat) (hw : Weak m env L (I x).1 (I x).2)
    (step : ∀ x, vC P Γ c (I x).1 (I x).2 (loopC I μ x k)) : vC P Γ (.loop c) env L k :=
  vC_loop (Ex.weak m hw (Ex.loop I μ (fun x => vC_sound (step x)) x))

end Go.Ab
namespace Go.Ab
theorem take_bytes (bs : List UInt8) : (bs.map bv).take bs.length = bs.map bv := List.take_of_length_le (by simp)
end Go.Ab

namespace Go.Ab
open Go Go.RowKit
set_option linter.unusedVariables false
set_option linter.unusedSimpArgs false
variable {P : Program} {L : LH} {env : Env} {pre : Prop}
/-- The end of a function that hands back a nil slice where a new row was to come. -/
theorem fin_nil {fn : Func} {sz : Nat} {x : ResultVar} {e : Exit} (he : e = .normal ∨ e = .ret) (hr : fn.results.toList = [x]) (hl : resOne P env L x = (pre, .lit (.slice none 0 0))) (h0 : pre) : Fin P fn (.new 0 sz []) e env L := by
  refine ⟨he, ?_⟩
  rw [hr]
  simp only [resAll, resPV, hr, hl]
  exact ⟨⟨h0, trivial⟩, .inr (.inl ⟨rfl, sz, rfl⟩)⟩
theorem fin_3nil {fn : Func} {sz : Nat} {q s : PV} {x y z : ResultVar} {pre' pre'' : Prop} {e : Exit} (he : e = .normal ∨ e = .ret) (hr : fn.results.toList = [x, y, z]) (hl : resOne P env L x = (pre, .lit (.slice none 0 0))) (hq : resOne P env L y = (pre', q)) (hs : resOne P env L z = (pre'', s)) (h0 : pre) (h0' : pre') (h0'' : pre'') (hc : closedL [q, s] = true) : Fin P fn (.tup [.new 0 sz [], q, s]) e env L := by
  refine ⟨he, ?_⟩
  rw [hr]
  simp only [resAll, resPV, hr, hl, hq, hs, List.map]
  exact ⟨⟨h0, h0', h0'', trivial⟩, .inr (.inr ⟨[q, s], sz, rfl, hc, rfl⟩)⟩

/-- Bytes, told as the bytes of a list. -/
def newB (bs : List UInt8) : PV := .new bs.length 1 (bs.map bv)
def rowB (bs : List UInt8) : PV := .ro bs.length (bs.map bv)
def bytesOf (cs : List PV) : List UInt8 := cs.map byteOf
theorem bytesOf_bv (bs : List UInt8) : bytesOf (bs.map bv) = bs := map_byteOf_bv bs

/-- Rows of bytes. -/
def isRows : List PV → Prop
  | [] => True
  | .ro n cs :: r => isB n cs ∧ isRows r
  | _ => False
def rowsOf : List PV → List (List UInt8)
  | [] => []
  | .ro _ cs :: r => bytesOf cs :: rowsOf r
  | _ :: r => [] :: rowsOf r
theorem isRows_out : ∀ {cs : List PV}, isRows cs → ∃ bss : List (List UInt8), cs = bss.map rowB ∧ rowsOf cs = bss
  | [], _ => ⟨[], rfl, rfl⟩
  | .ro n cs :: r, h => by
    obtain ⟨bs, rfl, rfl⟩ := isB_out h.1
    obtain ⟨bss, h2, h3⟩ := isRows_out h.2
    exact ⟨bs :: bss, by rw [h2]; rfl, by simp [rowsOf, h3, bytesOf_bv]⟩
  | .any :: _, h => h.elim
  | .lit _ :: _, h => h.elim
  | .own _ _ _ _ :: _, h => h.elim
  | .ptr _ _ :: _, h => h.elim
  | .rptr _ :: _, h => h.elim
  | .agg _ :: _, h => h.elim
  | .tup _ :: _, h => h.elim
  | .fn _ _ _ :: _, h => h.elim
  | .new _ _ _ :: _, h => h.elim
theorem getD_rows {bss : List (List UInt8)} {i : Nat} (h : i < bss.length) (d : PV) : (bss.map rowB).getD i d = rowB (bss.getD i []) := by
  simp [List.getD_eq_getElem?_getD, h]
theorem closedL_rows (bss : List (List UInt8)) : closedL (bss.map rowB) = true := by
  rw [closedL_iff]; intro p hp; rw [List.mem_map] at hp; obtain ⟨b, _, rfl⟩ := hp; simp [rowB, closed, closedL_bv]
theorem one_rows (bss : List (List UInt8)) : (bss.map rowB).all PV.one = true := by
  rw [List.all_eq_true]; intro p hp; rw [List.mem_map] at hp; obtain ⟨b, _, rfl⟩ := hp; rfl
end Go.Ab
namespace Go.Ab
theorem conOf_cons (f g : Nat) (S : List PV → Prop × PV) (r : List (FuncId × (List PV → Prop × PV))) : conOf ((f, S) :: r) g = bif f == g then S else conOf r g := by
  have h : Nat.beq f g = (f == g) := by rw [Bool.eq_iff_iff, Nat.beq_eq, beq_iff_eq]
  simp only [conOf, h]
theorem conOf_one {f : FuncId} {S : List PV → Prop × PV} {P : Program} {r : List (FuncId × (List PV → Prop × PV))} (h : PureOk P f S) (hr : ∀ x ∈ r, PureOk P x.1 x.2) : ∀ x ∈ (f, S) :: r, PureOk P x.1 x.2 := by
  intro x hx
  rcases List.mem_cons.1 hx with rfl | hx
  · exact h
  · exact hr x hx
theorem conOf_end {P : Program} : ∀ x ∈ ([] : List (FuncId × (List PV → Prop × PV))), PureOk P x.1 x.2 := by simp
end Go.Ab
namespace Go.Ab
open Go Go.RowKit
set_option linter.unusedVariables false
set_option linter.unusedSimpArgs false
variable {P : Program} {L : LH} {env : Env} {pre : Prop}
theorem slc_told {id off n : Nat} {cs : List PV} {bs : List UInt8} (hL : L[id]? = some (.cells cs)) (hn : n = bs.length) (hcs : (cs.drop off).take n = bs.map bv) : slc L (.own id off n 1) = (off + n * 1 ≤ cs.length, n, bs.map bv) ∧ (n = 0 ∨ off + n ≤ cs.length) := by
  have hlen : ((cs.drop off).take n).length = n := by rw [hcs, List.length_map, hn]
  have h2 : n = 0 ∨ off + n ≤ cs.length := by
    rw [List.length_take, List.length_drop] at hlen
    omega
  refine ⟨?_, h2⟩
  simp only [slc, hL, Nat.mul_one, hcs]

theorem fin_bytes {fn : Func} {x : ResultVar} {id off n : Nat} {cs : List PV} {bs : List UInt8} {e : Exit} (he : e = .normal ∨ e = .ret) (hr : fn.results.toList = [x]) (hl : resOne P env L x = (pre, .own id off n 1)) (h0 : pre)
    (hL : L[id]? = some (.cells cs)) (hoff : off ≤ cs.length) (hn : n = bs.length) (hcs : (cs.drop off).take n = bs.map bv) : Fin P fn (newB bs) e env L := by
  obtain ⟨h1, h2⟩ := slc_told hL hn hcs
  refine ⟨he, ?_⟩
  rw [hr]
  simp only [resAll, resPV, hr, hl]
  refine ⟨⟨h0, trivial⟩, .inl ⟨?_, ?_⟩⟩
  · simp only [shut, h1]
    exact ⟨by omega, .inl (closedL_bv bs)⟩
  · simp only [shut, h1, clr, closedL_bv, cond_true, newB]; rw [hn]

theorem fin_3bytes {fn : Func} {x y z : ResultVar} {id off n : Nat} {q s : PV} {pre' pre'' : Prop} {cs : List PV} {bs : List UInt8} {e : Exit} (he : e = .normal ∨ e = .ret) (hr : fn.results.toList = [x, y, z]) (hl : resOne P env L x = (pre, .own id off n 1)) (hq : resOne P env L y = (pre', q)) (hs : resOne P env L z = (pre'', s)) (h0 : pre) (h0' : pre') (h0'' : pre'')
    (hL : L[id]? = some (.cells cs)) (hoff : off ≤ cs.length) (hn : n = bs.length) (hcs : (cs.drop off).take n = bs.map bv) (hc : closedL [q, s] = true) : Fin P fn (.tup [newB bs, q, s]) e env L := by
  obtain ⟨h1, h2⟩ := slc_told hL hn hcs
  refine ⟨he, ?_⟩
  rw [hr]
  simp only [resAll, resPV, hr, hl, hq, hs, List.map]
  refine ⟨⟨h0, h0', h0'', trivial⟩, .inl ⟨?_, ?_⟩⟩
  · simp only [shut, h1]
    exact ⟨by omega, .inl (closedL_bv bs), .inl hc⟩
  · simp only [shut, h1, clr, closedL_bv, cond_true, newB, hc]; rw [hn]
end Go.Ab

namespace Go.Ab
theorem rep_cell (n : Nat) (z : Value) (h : z.cells = #[z]) : rep n z = List.replicate n (.lit z) := by
  induction n with
  | zero => rfl
  | succ n ih => simp only [rep, List.replicate_succ, List.flatten_cons, h] at ih ⊢; rw [ih]; rfl
theorem rep_slice (n : Nat) : rep n (.slice none 0 0) = List.replicate n (.lit (.slice none 0 0)) := rep_cell n _ rfl
end Go.Ab
