import Derived.Test.YtejilmjdkoileaaMF
namespace Go.Ab
open Go Go.RowKit
set_option linter.unusedVariables false
set_option linter.unusedSimpArgs false
set_option linter.constructorNameAsVariable false
variable {P : Program} {Γ : Con} {L L' : LH} {env : Env}
structure Byt (L : LH) (x : PV) (n : Nat) (bs : List UInt8) : Prop where
  ok : (slc L x).1
  num : (slc L x).2.1 = n
  row : (slc L x).2.2 = bs.map bv
  len : n = bs.length
theorem byt_nil : Byt L (.lit (.slice none 0 0)) 0 [] := ⟨trivial, rfl, rfl, rfl⟩
theorem byt_ro {n : Nat} {bs : List UInt8} (h : n = bs.length) : Byt L (.ro n (bs.map bv)) n bs := ⟨trivial, rfl, rfl, h⟩
theorem byt_part {id off n : Nat} {bs cs : List UInt8} (hL : L[id]? = some (.cells (bs.map bv))) (h : off + n ≤ bs.length) (hc : (bs.drop off).take n = cs) : Byt L (.own id off n 1) n cs := by
  subst hc
  refine ⟨?_, ?_, ?_, ?_⟩
  · simp only [slc, hL, List.length_map]; omega
  · simp only [slc, hL]
  · simp only [slc, hL, Nat.mul_one, List.map_take, List.map_drop]
  · simp; omega
theorem byt_own {id n : Nat} {bs : List UInt8} (hL : L[id]? = some (.cells (bs.map bv))) (h : n = bs.length) : Byt L (.own id 0 n 1) n bs :=
  byt_part hL (by omega) (by rw [List.drop_zero, h, List.take_length])
theorem Byt.shape {x : PV} {n : Nat} {bs : List UInt8} (h : Byt L x n bs) : (x = .lit (.slice none 0 0) ∧ n = 0) ∨ (∃ cs, x = .ro n cs) ∨ ∃ id off sz cs, x = .own id off n sz ∧ L[id]? = some (.cells cs) := by
  have h1 := h.ok
  have h2 := h.num
  unfold slc at h1 h2
  split at h1
  · exact .inl ⟨rfl, h2.symm⟩
  · simp only at h2; subst h2; exact .inr (.inl ⟨_, rfl⟩)
  · rename_i id off m sz
    simp only at h1 h2
    split at h1
    · rename_i cs hL
      simp only [hL] at h2
      subst h2
      exact .inr (.inr ⟨id, off, sz, cs, rfl, hL⟩)
    · exact h1.elim
  · exact h1.elim
def AppTo (L : LH) (s : PV) (bs : List UInt8) : Prop := (s = .lit (.slice none 0 0) ∧ bs = []) ∨ ∃ id n, s = .own id 0 n 1 ∧ n = bs.length ∧ L[id]? = some (.cells (bs.map bv))
theorem app_nil : AppTo L (.lit (.slice none 0 0)) [] := .inl ⟨rfl, rfl⟩
theorem app_own {id n : Nat} {bs : List UInt8} (hL : L[id]? = some (.cells (bs.map bv))) (h : n = bs.length) : AppTo L (.own id 0 n 1) bs := .inr ⟨id, n, rfl, h, hL⟩
def Bnd (env : Env) (o : Option Operand) (d z : Int) : Prop := (o = none ∧ z = d) ∨ ∃ x k, o = some x ∧ findO env x = some (.lit (.int k z))
theorem bnd_none {d : Int} : Bnd env none d d := .inl ⟨rfl, rfl⟩
theorem bnd_some {x : Operand} {k : IntKind} {d z : Int} (h : findO env x = some (.lit (.int k z))) : Bnd env (some x) d z := .inr ⟨x, k, rfl, h⟩
theorem Bnd.ints {o : Option Operand} {d z : Int} (h : Bnd env o d z) : ints? (o.map (evalIn env)) d = some z := by
  rcases h with ⟨rfl, rfl⟩ | ⟨x, k, rfl, h⟩
  · rfl
  · simp only [Option.map_some, findO_eval h, ints?]
theorem fill_one : ∀ (ps done zs : List PV), (∀ p ∈ ps, p.cells = [p]) → zs.length = ps.length → fillA 1 (fun i => some (i * 1)) (done ++ zs) ((List.range' done.length ps.length).zip ps) = some (done ++ ps)
  | [], done, zs, _, h => by
    have : zs = [] := List.length_eq_zero_iff.1 h
    subst this; rfl
  | a :: l, done, z :: zs, hc, h => by
    have ih := fill_one l (done ++ [a]) zs (fun p hp => hc p (by simp [hp])) (by simpa using h)
    rw [List.length_append, List.length_singleton] at ih
    show fillA _ _ _ ((done.length, a) :: (List.range' (done.length + 1) l.length).zip l) = _
    unfold fillA
    simp only [hc a (by simp), List.length_cons, List.length_nil, Nat.mul_one, List.length_append]
    rw [if_pos ⟨trivial, by omega⟩]
    have e : splice (done ++ z :: zs) done.length [a] = done ++ [a] ++ zs := by
      show (done ++ z :: zs).set done.length a = _
      rw [List.set_append_right _ _ (Nat.le_refl _), Nat.sub_self, List.set_cons_zero, List.append_assoc]
      rfl
    rw [e]
    simp only [Nat.mul_one] at ih
    rw [ih, List.append_assoc]
    rfl
theorem zip_all {f : PV → Bool} : ∀ (n k : Nat) (l : List PV), (∀ p ∈ l, f p = true) → ((List.range' k n).zip l).all (fun x => f x.2) = true
  | 0, k, l, _ => by simp
  | n + 1, k, [], _ => by simp
  | n + 1, k, a :: l, h => by
    rw [List.range'_succ, List.zip_cons_cons, List.all_cons, zip_all n (k + 1) l (fun p hp => h p (by simp [hp])), h a (by simp)]
    rfl
theorem buildS {draw : Bool} {t e s1 b1 m : Nat} {z1 : Value} {E : TI} {ps : List PV} {parts : List (Nat × PV)} (hT : tyOf P t = some ⟨.slice e, s1, b1, z1⟩) (hE : tyOf P e = some E) (h1 : E.size = 1) (hz : E.zero.cells.toList.length = 1) (hz2 : ∀ v ∈ E.zero.cells.toList, v.oneCell' = true)
    (hp : parts = (List.range' 0 m).zip ps) (hm : ps.length = m) (h0 : 0 < m) (hle : m ≤ 16777216) (hc : ∀ p ∈ ps, p.cells = [p] ∧ PV.one p = true) :
    buildSliceF P draw t m parts L = ⟨True, (fresh draw m 1 ps L).1, (fresh draw m 1 ps L).2⟩ := by
  subst hp
  have hsz : E.zero.cells.size = 1 := by simpa using hz
  have hrep : (rep m E.zero).length = ps.length := by rw [rep_length, hsz, hm, Nat.mul_one]
  have hf := fill_one ps [] (rep m E.zero) (fun p hp => (hc p hp).1) hrep
  simp only [List.nil_append, List.length_nil, hm] at hf
  have ha : ((List.range' 0 m).zip ps).all (fun x => x.2.cells.all PV.one) = true :=
    zip_all (f := fun p => p.cells.all PV.one) m 0 ps (fun p hp => by simp only [(hc p hp).1, List.all_cons, (hc p hp).2, List.all_nil, Bool.and_self])
  have hb : ps.all PV.one = true := List.all_eq_true.2 fun p hp => (hc p hp).2
  simp only [buildSliceF, hT, hE, h1, hf, ha, hb, hsz, OR.mk.injEq, and_true, eq_iff_iff, iff_true]
  exact ⟨by omega, by omega, trivial, hz2⟩
def BorL (L : LH) (ps qs : List PV) : Prop := ps.map (borrow L) = qs ∧ ∀ p ∈ ps, borrowOk L p
theorem bor_nil : BorL L [] [] := ⟨rfl, by simp⟩
theorem bor_closed {p : PV} {ps qs : List PV} (hc : closed p = true) (h : BorL L ps qs) : BorL L (p :: ps) (p :: qs) :=
  ⟨by rw [List.map_cons, h.1, borrow, hc, cond_true], fun q hq => by rcases List.mem_cons.1 hq with rfl | hq; exact .inl hc; exact h.2 q hq⟩
theorem bor_bytes {id off n : Nat} {bs : List UInt8} {ps qs : List PV} (hb : Byt L (.own id off n 1) n bs) (h : BorL L ps qs) : BorL L (.own id off n 1 :: ps) (.ro n (bs.map bv) :: qs) := by
  have e : borrow L (.own id off n 1) = .ro n (bs.map bv) := by
    simp only [borrow, closed, cond_false, dro, hb.row, dro_bv]
  refine ⟨by rw [List.map_cons, h.1, e], fun q hq => ?_⟩
  rcases List.mem_cons.1 hq with rfl | hq
  · refine .inr ⟨?_, ?_⟩
    · simp only [droOk]
      exact ⟨hb.ok, by rw [hb.row]; exact (droOk_bv L 3 bs).2 trivial⟩
    · simp only [dro, hb.row, dro_bv, closed, closedL_bv]
  · exact h.2 q hq
theorem dro_rowB (L : LH) (n : Nat) (b : List UInt8) : dro L n (rowB b) = rowB b := by cases n <;> rfl
theorem droOk_rowB (L : LH) (n : Nat) (b : List UInt8) : droOk L n (rowB b) := by cases n <;> trivial
theorem bor_rows {id n : Nat} {bss : List (List UInt8)} {ps qs : List PV} (hL : L[id]? = some (.cells (bss.map rowB))) (hn : n = bss.length) (h : BorL L ps qs) : BorL L (.own id 0 n 1 :: ps) (.ro n (bss.map rowB) :: qs) := by
  have hs : slc L (.own id 0 n 1) = (0 + n * 1 ≤ (bss.map rowB).length, n, bss.map rowB) := by
    simp only [slc, hL, Prod.mk.injEq, true_and, List.drop_zero, Nat.mul_one]
    exact List.take_of_length_le (by simp [hn])
  have hd : ∀ m, (bss.map rowB).map (dro L m) = bss.map rowB := fun m => by
    rw [List.map_map]; exact List.map_congr_left fun b _ => dro_rowB L m b
  have e : borrow L (.own id 0 n 1) = .ro n (bss.map rowB) := by
    simp only [borrow, closed, cond_false, dro, hs, hd]
  refine ⟨by rw [List.map_cons, h.1, e], fun q hq => ?_⟩
  rcases List.mem_cons.1 hq with rfl | hq
  · refine .inr ⟨?_, ?_⟩
    · simp only [droOk, hs]
      refine ⟨by simp [hn], fun q hq => ?_⟩
      rw [List.mem_map] at hq
      obtain ⟨b, _, rfl⟩ := hq
      exact droOk_rowB L _ b
    · simp only [dro, hs, hd, closed, closedL_rows]
  · exact h.2 q hq
theorem rep_zeros (m : Nat) : rep m (.int .u8 0) = (List.replicate m (0 : UInt8)).map bv := by
  unfold rep
  rw [List.map_replicate]
  show (List.replicate m [PV.lit (.int .u8 0)]).flatten = List.replicate m (PV.lit (.int .u8 0))
  induction m with
  | zero => rfl
  | succ m ih => rw [List.replicate_succ, List.flatten_cons, ih]; rfl
section kinds
variable {mode : Mode} {all r : List Oper} {o : Oper} {k : Env → LH → Prop} {d : Nat}
theorem kOps_len {t e s1 b1 m : Nat} {z1 : Value} {xx : Operand} {x : PV} {cs : List UInt8} (hk : o.op = .call ⟨.builtin .len, #[xx], #[t]⟩) (hg : o.guard = none) (hd : o.dst = some d) (hx : findO env xx = some x) (hT : tyOf P t = some ⟨.slice e, s1, b1, z1⟩) (hX : Byt L x m cs)
    (h : vOps P Γ mode all r ((d, .lit (.int .i64 (m : Int))) :: env) L k) : vOps P Γ mode all (o :: r) env L k := by
  refine vOps_op (pre := True) (val := .lit (.int .i64 (m : Int))) (L' := L) hg hd (by rw [hk]) ?_ trivial h
  rw [hk]
  simp only [opF, findO_eval hx]
  rcases hX.shape with ⟨rfl, rfl⟩ | ⟨cs, rfl⟩ | ⟨id, off, sz, cs, rfl, hL⟩
  · simp only [lenF, hT]
  · simp only [lenF, hT]
  · simp only [lenF, hT, hL]
theorem kOps_app {t t2 e e2 s1 b1 s2 b2 m q : Nat} {z1 z2 : Value} {sx xx : Operand} {s x : PV} {bs cs : List UInt8} {L2 : LH} (hk : o.op = .call ⟨.builtin .append, #[sx, xx], #[t, t2]⟩) (hg : o.guard = none) (hd : o.dst = some d) (hm : dm mode o.op = false)
    (hs : findO env sx = some s) (hx : findO env xx = some x) (hT : tyOf P t = some ⟨.slice e, s1, b1, z1⟩) (hT2 : tyOf P t2 = some ⟨.slice e2, s2, b2, z2⟩) (hE : tyOf P e = some ⟨.int .u8, 1, 1, .int .u8 0⟩)
    (hS : AppTo L s bs) (hX : Byt L x m cs) (hq : L.length = q) (hL2 : kill L s ++ [.cells ((bs ++ cs).map bv)] = L2) (hn : bs.length + m ≤ 140737488355328)
    (h : vOps P Γ mode all r ((d, .own q 0 (bs.length + m) 1) :: env) L2 k) : vOps P Γ mode all (o :: r) env L k := by
  refine vOps_op (pre := True) (val := .own q 0 (bs.length + m) 1) (L' := L2) hg hd (by rw [hk]) ?_ trivial h
  rw [hm, hk]
  have hlen : (slc L x).2.2.length = (slc L x).2.1 := by rw [hX.row, hX.num, List.length_map, hX.len]
  have hnews : news P ⟨.int .u8, 1, 1, .int .u8 0⟩ t2 x L = ((slc L x).1 ∧ (slc L x).2.2.length = (slc L x).2.1 * 1, (slc L x).2) := by
    simp only [news, hT2]
  have z1 : (Value.int IntKind.u8 0).cells.size = 1 := rfl
  rcases hS with ⟨rfl, rfl⟩ | ⟨id, n, rfl, rfl, hL⟩
  · simp only [kill, List.nil_append, List.length_nil, Nat.zero_add] at hL2 hn ⊢
    simp only [opF, findO_eval hs, findO_eval hx, appF, hT, hE, hnews, hX.num, hX.row, fresh_own, hq, hL2, z1, List.length_map, ← hX.len, Nat.mul_one, hX.ok, OR.mk.injEq, and_true, true_and, eq_iff_iff, iff_true]
    exact ⟨by omega, by omega, by omega⟩
  · have hsl : (slc L (.own id 0 bs.length 1)) = (0 + bs.length * 1 ≤ (bs.map bv).length, bs.length, bs.map bv) := by
      simp only [slc, hL, Prod.mk.injEq, true_and, List.drop_zero, Nat.mul_one]
      exact List.take_of_length_le (by simp)
    rw [List.map_append] at hL2
    simp only [opF, findO_eval hs, findO_eval hx, appF, hT, hE, hnews, hX.num, hX.row, hsl, hq, hL2, z1, List.length_map, ← hX.len, Nat.mul_one, Nat.zero_add, Nat.le_refl, hX.ok, OR.mk.injEq, and_true, true_and, eq_iff_iff, iff_true]
    exact ⟨by omega, by omega, by omega⟩
theorem kOps_slr {t e s1 b1 n l w : Nat} {z1 : Value} {E : TI} {xx : Operand} {lo hi : Option Operand} {bs cs : List UInt8} {y1 y2 : Int} (hk : o.op = .slice t xx lo hi none) (hg : o.guard = none) (hd : o.dst = some d) (hx : findO env xx = some (.ro n (bs.map bv))) (hT : tyOf P t = some ⟨.slice e, s1, b1, z1⟩) (hE : tyOf P e = some E) (h1 : E.size = 1)
    (hlo : Bnd env lo 0 y1) (hhi : Bnd env hi n y2) (hy : n = bs.length ∧ y1 = (l : Int) ∧ y2 = ((l + w : Nat) : Int) ∧ l + w ≤ n) (hc : (bs.drop l).take w = cs)
    (h : vOps P Γ mode all r ((d, .ro w (cs.map bv)) :: env) L k) : vOps P Γ mode all (o :: r) env L k := by
  obtain ⟨hn, rfl, rfl, hle⟩ := hy
  subst hc
  refine vOps_op (pre := True) (val := .ro w (((bs.drop l).take w).map bv)) (L' := L) hg hd (by rw [hk]) ?_ trivial h
  rw [hk]
  have e1 := hlo.ints
  have e2 := hhi.ints
  have e3 : (((l + w : Nat) : Int) - (l : Int)).toNat = w := by omega
  simp only [opF, findO_eval hx, sliceF, hT, hE, Option.map_none, e1, e2, h1, Nat.mul_one, e3, Int.toNat_natCast, List.length_map, List.map_take, List.map_drop, OR.mk.injEq, and_true, eq_iff_iff, iff_true]
  exact ⟨by omega, by omega, by omega, hn.symm⟩
theorem kOps_bsl {t e s1 b1 m q : Nat} {z1 : Value} {E : TI} {ps : List PV} {qs : List (Nat × PV)} {parts : Array (Nat × Operand)} (hk : o.op = .buildSlice t m parts) (hg : o.guard = none) (hd : o.dst = some d) (hm : dm mode o.op = false) (hx : findP env parts.toList = some qs) (hqs : qs = (List.range' 0 m).zip ps) (hT : tyOf P t = some ⟨.slice e, s1, b1, z1⟩) (hE : tyOf P e = some E) (h1 : E.size = 1) (hz : E.zero.cells.toList.length = 1) (hz2 : ∀ v ∈ E.zero.cells.toList, v.oneCell' = true)
    (hq : L.length = q) (hlen : ps.length = m) (h0 : 0 < m) (hle : m ≤ 16777216) (hc : ∀ p ∈ ps, p.cells = [p] ∧ PV.one p = true)
    (h : vOps P Γ mode all r ((d, .own q 0 m 1) :: env) (L ++ [.cells ps]) k) : vOps P Γ mode all (o :: r) env L k := by
  refine vOps_op (pre := True) (val := .own q 0 m 1) (L' := L ++ [.cells ps]) hg hd (by rw [hk]) ?_ trivial h
  rw [hm, hk]
  subst hqs
  simp only [opF, findP_eval hx, buildS hT hE h1 hz hz2 rfl hlen h0 hle hc, fresh_own, hq]
theorem kOps_bsd {t e s1 b1 m : Nat} {z1 : Value} {E : TI} {ps : List PV} {qs : List (Nat × PV)} {parts : Array (Nat × Operand)} (hk : o.op = .buildSlice t m parts) (hg : o.guard = none) (hd : o.dst = some d) (hm : dm mode o.op = true) (hx : findP env parts.toList = some qs) (hqs : qs = (List.range' 0 m).zip ps) (hT : tyOf P t = some ⟨.slice e, s1, b1, z1⟩) (hE : tyOf P e = some E) (h1 : E.size = 1) (hz : E.zero.cells.toList.length = 1) (hz2 : ∀ v ∈ E.zero.cells.toList, v.oneCell' = true)
    (hlen : ps.length = m) (h0 : 0 < m) (hle : m ≤ 16777216) (hc : ∀ p ∈ ps, p.cells = [p] ∧ PV.one p = true)
    (h : vOps P Γ mode all r ((d, .ro m ps) :: env) L k) : vOps P Γ mode all (o :: r) env L k := by
  refine vOps_op (pre := True) (val := .ro m ps) (L' := L) hg hd (by rw [hk]) ?_ trivial h
  rw [hm, hk]
  subst hqs
  simp only [opF, findP_eval hx, buildS hT hE h1 hz hz2 rfl hlen h0 hle hc, fresh_ro]
theorem pure_call {draw : Bool} {g : FuncId} {S : List PV → Prop × PV} {ps qs : List PV} {pre : Prop} {val : PV} (hΓ : Γ.tab g = .pure S) (hb : BorL L ps qs) (hv : S qs = (pre, val)) (hp : pre) (hf : closedL ps = true ∨ flat val = true) :
    callF Γ draw g ps L = ⟨True, (adopt draw val L).1, (adopt draw val L).2⟩ := by
  simp only [callF, hΓ, pureF, hb.1, hv, OR.mk.injEq, and_true, eq_iff_iff, iff_true]
  exact ⟨hp, hb.2, hf⟩
theorem kOps_callb {g : FuncId} {args : Array Operand} {tys : Array TypeId} {S : List PV → Prop × PV} {ps qs : List PV} {pre : Prop} {val : PV} (hk : o.op = .call ⟨.value (.func g), args, tys⟩) (hg : o.guard = none) (hd : o.dst = some d) (hΓ : Γ.tab g = .pure S) (hx : findL env args.toList = some ps) (hb : BorL L ps qs) (hv : S qs = (pre, val)) (hr : closed val = true) (hf : closedL ps = true ∨ flat val = true) (hp : pre)
    (h : vOps P Γ mode all r ((d, val) :: env) L k) : vOps P Γ mode all (o :: r) env L k := by
  refine vOps_call (b := dm mode o.op) (pre := True) (val := val) (L' := L) hk hg hd rfl ?_ trivial h
  rw [findL_eval hx, pure_call hΓ hb hv hp hf, adopt_closed hr]
end kinds
theorem one_cells_bv {bs : List UInt8} : ∀ p ∈ bs.map bv, p.cells = [p] ∧ PV.one p = true := by
  intro p hp; rw [List.mem_map] at hp; obtain ⟨b, _, rfl⟩ := hp; exact ⟨rfl, rfl⟩
theorem drop_rest {bs : List UInt8} {l w : Nat} (h : l + w = bs.length) : (bs.drop l).take w = bs.drop l := List.take_of_length_le (by simp; omega)
end Go.Ab
namespace Go.Ab
open Go Go.RowKit
set_option linter.unusedVariables false
set_option linter.unusedSimpArgs false
theorem isB_iff {n : Nat} {bs : List UInt8} (h : n = bs.length) : isB n (bs.map bv) ↔ True := by subst h; exact isB_bv bs
end Go.Ab
namespace Go.Ab
set_option linter.unusedVariables false
set_option linter.unusedSimpArgs false
end Go.Ab
namespace Go.Ab
set_option linter.unusedVariables false
set_option linter.unusedSimpArgs false
end Go.Ab
namespace Go.Ab
set_option linter.unusedVariables false
set_option linter.unusedSimpArgs false
end Go.Ab
namespace Go.Ab
open Go Go.RowKit
set_option linter.unusedVariables false
set_option linter.unusedSimpArgs false
section
variable {P : Program} {Γ : Con} {L : LH} {env : Env} {mode : Mode} {all r : List Oper} {o : Oper} {k : Env → LH → Prop} {d : Nat}
end
def sSaneS : List PV → Prop × PV
  | [] => (True, .lit (.bool true))
  | _ => (False, .any)
end Go.Ab
namespace Go.Ab
set_option linter.unusedVariables false
set_option linter.unusedSimpArgs false
end Go.Ab
namespace Go.Ab
set_option linter.unusedVariables false
set_option linter.unusedSimpArgs false
end Go.Ab
namespace Go.Ab
open Go Go.RowKit
set_option linter.unusedVariables false
set_option linter.unusedSimpArgs false
end Go.Ab
namespace Go.Ab
open Go Go.RowKit
set_option linter.unusedVariables false
set_option linter.unusedSimpArgs false
section
variable {P : Program} {Γ : Con} {L : LH} {env : Env} {mode : Mode} {all r : List Oper} {o : Oper} {k : Env → LH → Prop} {d : Nat}
theorem kOps_appmo {t t2 e s1 b1 s2 b2 q m n id : Nat} {z1 z2 : Value} {sx xx : Operand} {kk k2 : IntKind} {z : Int} {bs : List UInt8} {L2 : LH} (hk : o.op = .call ⟨.builtin .append, #[sx, xx], #[t, t2]⟩) (hg : o.guard = none) (hd : o.dst = some d) (hm : dm mode o.op = false)
    (hs : findO env sx = some (.own id 0 n 1)) (hx : findO env xx = some (.lit (.int kk z))) (hL : L[id]? = some (.cells (bs.map bv))) (hT : tyOf P t = some ⟨.slice e, s1, b1, z1⟩) (hT2 : tyOf P t2 = some ⟨.int k2, s2, b2, z2⟩) (hE : tyOf P e = some ⟨.int .u8, 1, 1, .int .u8 0⟩)
    (hq : L.length = q) (hL2 : L.set id .dead ++ [.cells ((bs ++ List.replicate m (0 : UInt8)).map bv)] = L2) (hz : z = (m : Int)) (hn : n = bs.length ∧ n + m ≤ 140737488355328)
    (h : vOps P Γ mode all r ((d, .own q 0 (n + m) 1) :: env) L2 k) : vOps P Γ mode all (o :: r) env L k := by
  subst hz hL2
  obtain ⟨rfl, hn⟩ := hn
  refine vOps_op (pre := True) (val := .own q 0 (bs.length + m) 1) (L' := L.set id .dead ++ [.cells ((bs ++ List.replicate m (0 : UInt8)).map bv)]) hg hd (by rw [hk]) ?_ trivial h
  rw [hm, hk]
  have hr := rep_zeros m
  have z1 : (Value.int IntKind.u8 0).cells.size = 1 := rfl
  have z2 : ∀ v ∈ (Value.int IntKind.u8 0).cells.toList, v.oneCell' = true := by decide
  have hsl : (slc L (.own id 0 bs.length 1)) = (0 + bs.length * 1 ≤ (bs.map bv).length, bs.length, bs.map bv) := by
    simp only [slc, hL, Prod.mk.injEq, true_and, List.drop_zero, Nat.mul_one]
    exact List.take_of_length_le (by simp)
  simp only [opF, findO_eval hs, findO_eval hx, appF, hT, hE, news, hT2, hsl, kill, hq, z1, Int.toNat_natCast, hr, List.map_append, List.length_map, Nat.mul_one, Nat.zero_add, Nat.le_refl, OR.mk.injEq, and_true, true_and, eq_iff_iff, iff_true]
  exact ⟨by omega, ⟨by omega, by omega, by omega, z2⟩, by omega, by omega⟩
end
def key64 (k : List UInt8) : List UInt8 := if 64 < k.length then (sum k) ++ List.replicate 32 0 else k ++ List.replicate (64 - k.length) 0
def mask (m : UInt8) (b : List UInt8) : List UInt8 := b.map (· ^^^ m)
def hmac (k b : List UInt8) : List UInt8 := sum (mask 92 (key64 k) ++ sum (mask 54 (key64 k) ++ b))
def tagged (t b : List UInt8) : List UInt8 := sum (sum t ++ sum t ++ b)
def isU8 (p : PV) : Prop := ∃ x, p = bv x
attribute [irreducible] mask key64 hmac tagged
end Go.Ab
namespace Go.Ab
end Go.Ab
namespace Go.Ab
open Go Go.RowKit
end Go.Ab
namespace Go.Ab
set_option linter.unusedVariables false
end Go.Ab
namespace Go.Ab
open Go Go.RowKit
section
variable {P : Program} {Γ : Con} {mode : Mode} {all r : List Oper} {o : Oper} {k : Env → LH → Prop} {env : Env} {L : LH} {d : Nat}
end
end Go.Ab
namespace Go.Ab
open Go Go.RowKit
end Go.Ab
namespace Go.Ab
open Go Go.RowKit
end Go.Ab
namespace Go.Ab
open Go Go.RowKit
theorem wrap_b64 (x : UInt8) : IntKind.i64.wrap (x.toNat : Int) = (x.toNat : Int) := by
  have := x.toNat_lt
  exact wrap_i64 (by omega) (by omega)
end Go.Ab
namespace Go.Ab
open Go Go.RowKit
set_option linter.unusedVariables false
set_option linter.unusedSimpArgs false
def leF (n j : Nat) : UInt8 := UInt8.ofNat (n / 2 ^ (8 * j))
def leB (n w : Nat) : List UInt8 := (List.range w).map (leF n)
attribute [irreducible] leB leF
end Go.Ab
namespace Go.Ab
open Go Go.RowKit
def szB (n : Nat) : List UInt8 :=
  if n < 253 then leB n 1 else if n < 65536 then 253 :: leB n 2 else if n < 4294967296 then 254 :: leB n 4 else 255 :: leB n 8
end Go.Ab
namespace Go.Ab
open Go Go.RowKit
attribute [irreducible] szB
end Go.Ab
namespace Go.Ab
open Go Go.RowKit
end Go.Ab
namespace Go.Ab
open Go Go.RowKit
end Go.Ab
namespace Go.Ab
open Go Go.RowKit
def leV : List UInt8 → Nat
  | [] => 0
  | x :: r => x.toNat + 256 * leV r
theorem leV_lt : ∀ l : List UInt8, leV l < 256 ^ l.length
  | [] => by simp [leV]
  | x :: r => by
    have h1 := leV_lt r
    have h2 := x.toNat_lt
    rw [leV, List.length_cons, Nat.pow_succ]
    omega
theorem leV_snoc : ∀ (l : List UInt8) (x : UInt8), leV (l ++ [x]) = leV l + x.toNat * 256 ^ l.length
  | [], x => by simp [leV]
  | y :: r, x => by
    rw [List.cons_append, leV, leV, leV_snoc r x, List.length_cons, Nat.pow_succ, Nat.mul_add, Nat.mul_comm (256 ^ r.length) 256, Nat.mul_left_comm]
    omega
def rdV (b : List UInt8) (a w : Nat) : Nat := leV ((b.drop a).take w)
theorem rdV_lt {b : List UInt8} {a w : Nat} : rdV b a w < 256 ^ w :=
  Nat.lt_of_lt_of_le (leV_lt _) (Nat.pow_le_pow_right (by decide) (by rw [List.length_take]; omega))
theorem rdV_succ {b : List UInt8} {a i : Nat} (h : a + i < b.length) : rdV b a (i + 1) = rdV b a i + (b.getD (a + i) 0).toNat * 256 ^ i := by
  unfold rdV
  have hl : i < (b.drop a).length := by rw [List.length_drop]; omega
  rw [List.take_add_one, List.getElem?_eq_getElem hl, Option.toList_some, leV_snoc, List.length_take, Nat.min_eq_left (by omega), List.getElem_drop, List.getD_eq_getElem?_getD, List.getElem?_eq_getElem h, Option.getD_some]
theorem or_part {v x i : Nat} (h : v < 256 ^ i) : v ||| x * 2 ^ (8 * i) = v + x * 256 ^ i := by
  have e : (256 : Nat) ^ i = 2 ^ (8 * i) := by rw [Nat.pow_mul]
  rw [e] at h ⊢
  rw [Nat.or_comm, ← Nat.shiftLeft_eq, ← Nat.shiftLeft_add_eq_or_of_lt h, Nat.shiftLeft_eq, Nat.add_comm]
end Go.Ab
namespace Go.Ab
open Go Go.RowKit
end Go.Ab
namespace Go.Ab
open Go Go.RowKit
end Go.Ab
namespace Go.Ab
open Go Go.RowKit
end Go.Ab
namespace Go.Ab
open Go Go.RowKit
theorem rd_or {b : List UInt8} {m i : Nat} (h : m + i < b.length) : rdV b m i ||| (b.getD (m + i) 0).toNat * 2 ^ (8 * i) = rdV b m (i + 1) := by
  rw [or_part rdV_lt, rdV_succ h]
end Go.Ab
namespace Go.Ab
open Go Go.RowKit
end Go.Ab
namespace Go.Ab
open Go Go.RowKit
end Go.Ab
