import Derived.Test.YtaofjdaclnagnaaMF
import Derived.Test.YtaofjdaclnagnaaMP
namespace Go.Ab
open Go Go.RowKit
set_option linter.unusedVariables false
set_option linter.unusedSimpArgs false
set_option linter.constructorNameAsVariable false
variable {P : Program} {Γ : Con} {L L' : LH} {env : Env}
structure Byt (L : LH) (x : PV) (n : Nat) (bs : List UInt8) : Prop where
  ok : (slc L x).1
  num : (slc L x).2.1 = n
  row : (slc L x).2.2 = bs.map bv
  len : n = bs.length
theorem byt_nil : Byt L (.lit (.slice none 0 0)) 0 [] := ⟨trivial, rfl, rfl, rfl⟩
theorem byt_ro {n : Nat} {bs : List UInt8} (h : n = bs.length) : Byt L (.ro n (bs.map bv)) n bs := ⟨trivial, rfl, rfl, h⟩
theorem byt_part {id off n : Nat} {bs cs : List UInt8} (hL : L[id]? = some (.cells (bs.map bv))) (h : off + n ≤ bs.length) (hc : (bs.drop off).take n = cs) : Byt L (.own id off n 1) n cs := by
  subst hc
  refine ⟨?_, ?_, ?_, ?_⟩
  · simp only [slc, hL, List.length_map]; omega
  · simp only [slc, hL]
  · simp only [slc, hL, Nat.mul_one, List.map_take, List.map_drop]
  · simp; omega
theorem byt_own {id n : Nat} {bs : List UInt8} (hL : L[id]? = some (.cells (bs.map bv))) (h : n = bs.length) : Byt L (.own id 0 n 1) n bs :=
  byt_part hL (by omega) (by rw [List.drop_zero, h, List.take_length])
theorem Byt.shape {x : PV} {n : Nat} {bs : List UInt8} (h : Byt L x n bs) : (x = .lit (.slice none 0 0) ∧ n = 0) ∨ (∃ cs, x = .ro n cs) ∨ ∃ id off sz cs, x = .own id off n sz ∧ L[id]? = some (.cells cs) := by
  have h1 := h.ok
  have h2 := h.num
  unfold slc at h1 h2
  split at h1
  · exact .inl ⟨rfl, h2.symm⟩
  · simp only at h2; subst h2; exact .inr (.inl ⟨_, rfl⟩)
  · rename_i id off m sz
    simp only at h1 h2
    split at h1
    · rename_i cs hL
      simp only [hL] at h2
      subst h2
      exact .inr (.inr ⟨id, off, sz, cs, rfl, hL⟩)
    · exact h1.elim
  · exact h1.elim
def AppTo (L : LH) (s : PV) (bs : List UInt8) : Prop := (s = .lit (.slice none 0 0) ∧ bs = []) ∨ ∃ id n, s = .own id 0 n 1 ∧ n = bs.length ∧ L[id]? = some (.cells (bs.map bv))
theorem app_nil : AppTo L (.lit (.slice none 0 0)) [] := .inl ⟨rfl, rfl⟩
theorem app_own {id n : Nat} {bs : List UInt8} (hL : L[id]? = some (.cells (bs.map bv))) (h : n = bs.length) : AppTo L (.own id 0 n 1) bs := .inr ⟨id, n, rfl, h, hL⟩
def Bnd (env : Env) (o : Option Operand) (d z : Int) : Prop := (o = none ∧ z = d) ∨ ∃ x k, o = some x ∧ findO env x = some (.lit (.int k z))
theorem bnd_none {d : Int} : Bnd env none d d := .inl ⟨rfl, rfl⟩
theorem bnd_some {x : Operand} {k : IntKind} {d z : Int} (h : findO env x = some (.lit (.int k z))) : Bnd env (some x) d z := .inr ⟨x, k, rfl, h⟩
theorem Bnd.ints {o : Option Operand} {d z : Int} (h : Bnd env o d z) : ints? (o.map (evalIn env)) d = some z := by
  rcases h with ⟨rfl, rfl⟩ | ⟨x, k, rfl, h⟩
  · rfl
  · simp only [Option.map_some, findO_eval h, ints?]
theorem fill_one : ∀ (ps done zs : List PV), (∀ p ∈ ps, p.cells = [p]) → zs.length = ps.length → fillA 1 (fun i => some (i * 1)) (done ++ zs) ((List.range' done.length ps.length).zip ps) = some (done ++ ps)
  | [], done, zs, _, h => by
    have : zs = [] := List.length_eq_zero_iff.1 h
    subst this; rfl
  | a :: l, done, z :: zs, hc, h => by
    have ih := fill_one l (done ++ [a]) zs (fun p hp => hc p (by simp [hp])) (by simpa using h)
    rw [List.length_append, List.length_singleton] at ih
    show fillA _ _ _ ((done.length, a) :: (List.range' (done.length + 1) l.length).zip l) = _
    unfold fillA
    simp only [hc a (by simp), List.length_cons, List.length_nil, Nat.mul_one, List.length_append]
    rw [if_pos ⟨trivial, by omega⟩]
    have e : splice (done ++ z :: zs) done.length [a] = done ++ [a] ++ zs := by
      show (done ++ z :: zs).set done.length a = _
      rw [List.set_append_right _ _ (Nat.le_refl _), Nat.sub_self, List.set_cons_zero, List.append_assoc]
      rfl
    rw [e]
    simp only [Nat.mul_one] at ih
    rw [ih, List.append_assoc]
    rfl
theorem zip_all {f : PV → Bool} : ∀ (n k : Nat) (l : List PV), (∀ p ∈ l, f p = true) → ((List.range' k n).zip l).all (fun x => f x.2) = true
  | 0, k, l, _ => by simp
  | n + 1, k, [], _ => by simp
  | n + 1, k, a :: l, h => by
    rw [List.range'_succ, List.zip_cons_cons, List.all_cons, zip_all n (k + 1) l (fun p hp => h p (by simp [hp])), h a (by simp)]
    rfl
theorem buildS {draw : Bool} {t e s1 b1 m : Nat} {z1 : Value} {E : TI} {ps : List PV} {parts : List (Nat × PV)} (hT : tyOf P t = some ⟨.slice e, s1, b1, z1⟩) (hE : tyOf P e = some E) (h1 : E.size = 1) (hz : E.zero.cells.toList.length = 1) (hz2 : ∀ v ∈ E.zero.cells.toList, v.oneCell' = true)
    (hp : parts = (List.range' 0 m).zip ps) (hm : ps.length = m) (h0 : 0 < m) (hle : m ≤ 16777216) (hc : ∀ p ∈ ps, p.cells = [p] ∧ PV.one p = true) :
    buildSliceF P draw t m parts L = ⟨True, (fresh draw m 1 ps L).1, (fresh draw m 1 ps L).2⟩ := by
  subst hp
  have hsz : E.zero.cells.size = 1 := by simpa using hz
  have hrep : (rep m E.zero).length = ps.length := by rw [rep_length, hsz, hm, Nat.mul_one]
  have hf := fill_one ps [] (rep m E.zero) (fun p hp => (hc p hp).1) hrep
  simp only [List.nil_append, List.length_nil, hm] at hf
  have ha : ((List.range' 0 m).zip ps).all (fun x => x.2.cells.all PV.one) = true :=
    zip_all (f := fun p => p.cells.all PV.one) m 0 ps (fun p hp => by simp only [(hc p hp).1, List.all_cons, (hc p hp).2, List.all_nil, Bool.and_self])
  have hb : ps.all PV.one = true := List.all_eq_true.2 fun p hp => (hc p hp).2
  simp only [buildSliceF, hT, hE, h1, hf, ha, hb, hsz, OR.mk.injEq, and_true, eq_iff_iff, iff_true]
  exact ⟨by omega, by omega, trivial, hz2⟩
def BorL (L : LH) (ps qs : List PV) : Prop := ps.map (borrow L) = qs ∧ ∀ p ∈ ps, borrowOk L p
theorem bor_nil : BorL L [] [] := ⟨rfl, by simp⟩
theorem bor_closed {p : PV} {ps qs : List PV} (hc : closed p = true) (h : BorL L ps qs) : BorL L (p :: ps) (p :: qs) :=
  ⟨by rw [List.map_cons, h.1, borrow, hc, cond_true], fun q hq => by rcases List.mem_cons.1 hq with rfl | hq; exact .inl hc; exact h.2 q hq⟩
theorem bor_bytes {id off n : Nat} {bs : List UInt8} {ps qs : List PV} (hb : Byt L (.own id off n 1) n bs) (h : BorL L ps qs) : BorL L (.own id off n 1 :: ps) (.ro n (bs.map bv) :: qs) := by
  have e : borrow L (.own id off n 1) = .ro n (bs.map bv) := by
    simp only [borrow, closed, cond_false, dro, hb.row, dro_bv]
  refine ⟨by rw [List.map_cons, h.1, e], fun q hq => ?_⟩
  rcases List.mem_cons.1 hq with rfl | hq
  · refine .inr ⟨?_, ?_⟩
    · simp only [droOk]
      exact ⟨hb.ok, by rw [hb.row]; exact (droOk_bv L 3 bs).2 trivial⟩
    · simp only [dro, hb.row, dro_bv, closed, closedL_bv]
  · exact h.2 q hq
theorem dro_rowB (L : LH) (n : Nat) (b : List UInt8) : dro L n (rowB b) = rowB b := by cases n <;> rfl
theorem droOk_rowB (L : LH) (n : Nat) (b : List UInt8) : droOk L n (rowB b) := by cases n <;> trivial
theorem bor_rows {id n : Nat} {bss : List (List UInt8)} {ps qs : List PV} (hL : L[id]? = some (.cells (bss.map rowB))) (hn : n = bss.length) (h : BorL L ps qs) : BorL L (.own id 0 n 1 :: ps) (.ro n (bss.map rowB) :: qs) := by
  have hs : slc L (.own id 0 n 1) = (0 + n * 1 ≤ (bss.map rowB).length, n, bss.map rowB) := by
    simp only [slc, hL, Prod.mk.injEq, true_and, List.drop_zero, Nat.mul_one]
    exact List.take_of_length_le (by simp [hn])
  have hd : ∀ m, (bss.map rowB).map (dro L m) = bss.map rowB := fun m => by
    rw [List.map_map]; exact List.map_congr_left fun b _ => dro_rowB L m b
  have e : borrow L (.own id 0 n 1) = .ro n (bss.map rowB) := by
    simp only [borrow, closed, cond_false, dro, hs, hd]
  refine ⟨by rw [List.map_cons, h.1, e], fun q hq => ?_⟩
  rcases List.mem_cons.1 hq with rfl | hq
  · refine .inr ⟨?_, ?_⟩
    · simp only [droOk, hs]
      refine ⟨by simp [hn], fun q hq => ?_⟩
      rw [List.mem_map] at hq
      obtain ⟨b, _, rfl⟩ := hq
      exact droOk_rowB L _ b
    · simp only [dro, hs, hd, closed, closedL_rows]
  · exact h.2 q hq
theorem rep_zeros (m : Nat) : rep m (.int .u8 0) = (List.replicate m (0 : UInt8)).map bv := by
  unfold rep
  rw [List.map_replicate]
  show (List.replicate m [PV.lit (.int .u8 0)]).flatten = List.replicate m (PV.lit (.int .u8 0))
  induction m with
  | zero => rfl
  | succ m ih => rw [List.replicate_succ, List.flatten_cons, ih]; rfl
section kinds
variable {mode : Mode} {all r : List Oper} {o : Oper} {k : Env → LH → Prop} {d : Nat}
theorem kOps_len {t e s1 b1 m : Nat} {z1 : Value} {xx : Operand} {x : PV} {cs : List UInt8} (hk : o.op = .call ⟨.builtin .len, #[xx], #[t]⟩) (hg : o.guard = none) (hd : o.dst = some d) (hx : findO env xx = some x) (hT : tyOf P t = some ⟨.slice e, s1, b1, z1⟩) (hX : Byt L x m cs)
    (h : vOps P Γ mode all r ((d, .lit (.int .i64 (m : Int))) :: env) L k) : vOps P Γ mode all (o :: r) env L k := by
  refine vOps_op (pre := True) (val := .lit (.int .i64 (m : Int))) (L' := L) hg hd (by rw [hk]) ?_ trivial h
  rw [hk]
  simp only [opF, findO_eval hx]
  rcases hX.shape with ⟨rfl, rfl⟩ | ⟨cs, rfl⟩ | ⟨id, off, sz, cs, rfl, hL⟩
  · simp only [lenF, hT]
  · simp only [lenF, hT]
  · simp only [lenF, hT, hL]
theorem kOps_lenr {t e s1 b1 m : Nat} {z1 : Value} {xx : Operand} {cs : List PV} (hk : o.op = .call ⟨.builtin .len, #[xx], #[t]⟩) (hg : o.guard = none) (hd : o.dst = some d) (hx : findO env xx = some (.ro m cs)) (hT : tyOf P t = some ⟨.slice e, s1, b1, z1⟩)
    (h : vOps P Γ mode all r ((d, .lit (.int .i64 (m : Int))) :: env) L k) : vOps P Γ mode all (o :: r) env L k := by
  refine vOps_op (pre := True) (val := .lit (.int .i64 (m : Int))) (L' := L) hg hd (by rw [hk]) ?_ trivial h
  rw [hk]
  simp only [opF, findO_eval hx, lenF, hT]
theorem kOps_app {t t2 e e2 s1 b1 s2 b2 m q : Nat} {z1 z2 : Value} {sx xx : Operand} {s x : PV} {bs cs : List UInt8} {L2 : LH} (hk : o.op = .call ⟨.builtin .append, #[sx, xx], #[t, t2]⟩) (hg : o.guard = none) (hd : o.dst = some d) (hm : dm mode o.op = false)
    (hs : findO env sx = some s) (hx : findO env xx = some x) (hT : tyOf P t = some ⟨.slice e, s1, b1, z1⟩) (hT2 : tyOf P t2 = some ⟨.slice e2, s2, b2, z2⟩) (hE : tyOf P e = some ⟨.int .u8, 1, 1, .int .u8 0⟩)
    (hS : AppTo L s bs) (hX : Byt L x m cs) (hq : L.length = q) (hL2 : kill L s ++ [.cells ((bs ++ cs).map bv)] = L2) (hn : bs.length + m ≤ 140737488355328)
    (h : vOps P Γ mode all r ((d, .own q 0 (bs.length + m) 1) :: env) L2 k) : vOps P Γ mode all (o :: r) env L k := by
  refine vOps_op (pre := True) (val := .own q 0 (bs.length + m) 1) (L' := L2) hg hd (by rw [hk]) ?_ trivial h
  rw [hm, hk]
  have hlen : (slc L x).2.2.length = (slc L x).2.1 := by rw [hX.row, hX.num, List.length_map, hX.len]
  have hnews : news P ⟨.int .u8, 1, 1, .int .u8 0⟩ t2 x L = ((slc L x).1 ∧ (slc L x).2.2.length = (slc L x).2.1 * 1, (slc L x).2) := by
    simp only [news, hT2]
  have z1 : (Value.int IntKind.u8 0).cells.size = 1 := rfl
  rcases hS with ⟨rfl, rfl⟩ | ⟨id, n, rfl, rfl, hL⟩
  · simp only [kill, List.nil_append, List.length_nil, Nat.zero_add] at hL2 hn ⊢
    simp only [opF, findO_eval hs, findO_eval hx, appF, hT, hE, hnews, hX.num, hX.row, fresh_own, hq, hL2, z1, List.length_map, ← hX.len, Nat.mul_one, hX.ok, OR.mk.injEq, and_true, true_and, eq_iff_iff, iff_true]
    exact ⟨by omega, by omega, by omega⟩
  · have hsl : (slc L (.own id 0 bs.length 1)) = (0 + bs.length * 1 ≤ (bs.map bv).length, bs.length, bs.map bv) := by
      simp only [slc, hL, Prod.mk.injEq, true_and, List.drop_zero, Nat.mul_one]
      exact List.take_of_length_le (by simp)
    rw [List.map_append] at hL2
    simp only [opF, findO_eval hs, findO_eval hx, appF, hT, hE, hnews, hX.num, hX.row, hsl, hq, hL2, z1, List.length_map, ← hX.len, Nat.mul_one, Nat.zero_add, Nat.le_refl, hX.ok, OR.mk.injEq, and_true, true_and, eq_iff_iff, iff_true]
    exact ⟨by omega, by omega, by omega⟩
theorem kOps_appm {t t2 e s1 b1 s2 b2 q m : Nat} {z1 z2 : Value} {sx xx : Operand} {kk k2 : IntKind} {z : Int} (hk : o.op = .call ⟨.builtin .append, #[sx, xx], #[t, t2]⟩) (hg : o.guard = none) (hd : o.dst = some d) (hm : dm mode o.op = false)
    (hs : findO env sx = some (.lit (.slice none 0 0))) (hx : findO env xx = some (.lit (.int kk z))) (hT : tyOf P t = some ⟨.slice e, s1, b1, z1⟩) (hT2 : tyOf P t2 = some ⟨.int k2, s2, b2, z2⟩) (hE : tyOf P e = some ⟨.int .u8, 1, 1, .int .u8 0⟩)
    (hq : L.length = q) (hz : z = (m : Int)) (hn : m ≤ 140737488355328)
    (h : vOps P Γ mode all r ((d, .own q 0 m 1) :: env) (L ++ [.cells ((List.replicate m (0 : UInt8)).map bv)]) k) : vOps P Γ mode all (o :: r) env L k := by
  subst hz
  refine vOps_op (pre := True) (val := .own q 0 m 1) (L' := L ++ [.cells ((List.replicate m (0 : UInt8)).map bv)]) hg hd (by rw [hk]) ?_ trivial h
  rw [hm, hk]
  have hr := rep_zeros m
  have z1 : (Value.int IntKind.u8 0).cells.size = 1 := rfl
  have z2 : ∀ v ∈ (Value.int IntKind.u8 0).cells.toList, v.oneCell' = true := by decide
  simp only [opF, findO_eval hs, findO_eval hx, appF, hT, hE, news, hT2, fresh_own, hq, z1, Int.toNat_natCast, hr, OR.mk.injEq, and_true, true_and, eq_iff_iff, iff_true]
  exact ⟨by omega, ⟨by omega, by omega, by omega, z2⟩, by omega, by omega⟩
theorem kOps_mk {t e s1 b1 l c n : Nat} {z1 : Value} {x y : Operand} {p p2 : PV} {k1 k2 : IntKind} (hk : o.op = .makeSlice t x y) (hg : o.guard = none) (hd : o.dst = some d) (hm : dm mode o.op = false) (hx : findO env x = some p) (hy : findO env y = some p2) (hT : tyOf P t = some ⟨.slice e, s1, b1, z1⟩) (hE : tyOf P e = some ⟨.int .u8, 1, 1, .int .u8 0⟩)
    (hn : L.length = n) (hp : p = .lit (.int k1 (l : Int))) (hp2 : p2 = .lit (.int k2 (c : Int))) (hl : l ≤ c ∧ c ≤ 281474976710656)
    (h : vOps P Γ mode all r ((d, .own n 0 l 1) :: env) (L ++ [.cells ((List.replicate l (0 : UInt8)).map bv)]) k) : vOps P Γ mode all (o :: r) env L k := by
  subst hp hp2
  refine vOps_op (pre := True) (val := .own n 0 l 1) (L' := L ++ [.cells ((List.replicate l (0 : UInt8)).map bv)]) hg hd (by rw [hk]) ?_ trivial h
  rw [hm, hk]
  have hr := rep_zeros l
  have z1 : (Value.int IntKind.u8 0).cells.size = 1 := rfl
  have z2 : ∀ v ∈ (Value.int IntKind.u8 0).cells.toList, v.oneCell' = true := by decide
  simp only [opF, findO_eval hx, findO_eval hy, makeF, hT, hE, fresh_own, hn, z1, Int.toNat_natCast, hr, OR.mk.injEq, and_true, true_and, eq_iff_iff, iff_true]
  exact ⟨by omega, by omega, by omega, by omega, z2⟩
theorem kOps_slr {t e s1 b1 n l w : Nat} {z1 : Value} {E : TI} {xx : Operand} {lo hi : Option Operand} {bs cs : List UInt8} {y1 y2 : Int} (hk : o.op = .slice t xx lo hi none) (hg : o.guard = none) (hd : o.dst = some d) (hx : findO env xx = some (.ro n (bs.map bv))) (hT : tyOf P t = some ⟨.slice e, s1, b1, z1⟩) (hE : tyOf P e = some E) (h1 : E.size = 1)
    (hlo : Bnd env lo 0 y1) (hhi : Bnd env hi n y2) (hy : n = bs.length ∧ y1 = (l : Int) ∧ y2 = ((l + w : Nat) : Int) ∧ l + w ≤ n) (hc : (bs.drop l).take w = cs)
    (h : vOps P Γ mode all r ((d, .ro w (cs.map bv)) :: env) L k) : vOps P Γ mode all (o :: r) env L k := by
  obtain ⟨hn, rfl, rfl, hle⟩ := hy
  subst hc
  refine vOps_op (pre := True) (val := .ro w (((bs.drop l).take w).map bv)) (L' := L) hg hd (by rw [hk]) ?_ trivial h
  rw [hk]
  have e1 := hlo.ints
  have e2 := hhi.ints
  have e3 : (((l + w : Nat) : Int) - (l : Int)).toNat = w := by omega
  simp only [opF, findO_eval hx, sliceF, hT, hE, Option.map_none, e1, e2, h1, Nat.mul_one, e3, Int.toNat_natCast, List.length_map, List.map_take, List.map_drop, OR.mk.injEq, and_true, eq_iff_iff, iff_true]
  exact ⟨by omega, by omega, by omega, hn.symm⟩
theorem kOps_slo {t e s1 b1 n l w id : Nat} {z1 : Value} {E : TI} {xx : Operand} {lo hi : Option Operand} {cs : List PV} {y1 y2 : Int} (hk : o.op = .slice t xx lo hi none) (hg : o.guard = none) (hd : o.dst = some d) (hx : findO env xx = some (.own id 0 n 1)) (hL : L[id]? = some (.cells cs)) (hT : tyOf P t = some ⟨.slice e, s1, b1, z1⟩) (hE : tyOf P e = some E) (h1 : E.size = 1)
    (hlo : Bnd env lo 0 y1) (hhi : Bnd env hi n y2) (hy : y1 = (l : Int) ∧ y2 = ((l + w : Nat) : Int) ∧ l + w ≤ n ∧ (l = 0 ∨ 0 < w))
    (h : vOps P Γ mode all r ((d, .own id l w 1) :: env) L k) : vOps P Γ mode all (o :: r) env L k := by
  obtain ⟨rfl, rfl, hle, hor⟩ := hy
  refine vOps_op (pre := True) (val := .own id l w 1) (L' := L) hg hd (by rw [hk]) ?_ trivial h
  rw [hk]
  have e1 := hlo.ints
  have e2 := hhi.ints
  have e3 : (((l + w : Nat) : Int) - (l : Int)).toNat = w := by omega
  simp only [opF, findO_eval hx, sliceF, hT, hE, hL, Option.map_none, e1, e2, h1, Nat.mul_one, e3, Int.toNat_natCast, Nat.zero_add, OR.mk.injEq, and_true, eq_iff_iff, iff_true]
  refine ⟨by omega, by omega, by omega, trivial, by omega⟩
theorem kOps_sln {t e s1 b1 : Nat} {z1 : Value} {E : TI} {xx : Operand} {lo hi : Option Operand} (hk : o.op = .slice t xx lo hi none) (hg : o.guard = none) (hd : o.dst = some d) (hx : findO env xx = some (.lit (.slice none 0 0))) (hT : tyOf P t = some ⟨.slice e, s1, b1, z1⟩) (hE : tyOf P e = some E)
    (hlo : Bnd env lo 0 0) (hhi : Bnd env hi 0 0)
    (h : vOps P Γ mode all r ((d, .lit (.slice none 0 0)) :: env) L k) : vOps P Γ mode all (o :: r) env L k := by
  refine vOps_op (pre := True) (val := .lit (.slice none 0 0)) (L' := L) hg hd (by rw [hk]) ?_ trivial h
  rw [hk]
  simp only [opF, findO_eval hx, sliceF, hT, hE, Option.map_none, hlo.ints, hhi.ints, and_self]
theorem kOps_slp {t e s1 b1 m id : Nat} {z1 : Value} {E : TI} {xx : Operand} {cs : List PV} (hk : o.op = .slice t xx none none none) (hg : o.guard = none) (hd : o.dst = some d) (hx : findO env xx = some (.ptr id 0)) (hL : L[id]? = some (.cells cs)) (hT : tyOf P t = some ⟨.array m e, s1, b1, z1⟩) (hE : tyOf P e = some E) (h1 : E.size = 1) (hm : m ≤ cs.length)
    (h : vOps P Γ mode all r ((d, .own id 0 m 1) :: env) L k) : vOps P Γ mode all (o :: r) env L k := by
  refine vOps_op (pre := True) (val := .own id 0 m 1) (L' := L) hg hd (by rw [hk]) ?_ trivial h
  rw [hk]
  simp only [opF, findO_eval hx, sliceF, hT, hE, hL, Option.map_none, ints?, h1, Nat.mul_one, Int.toNat_zero, Int.sub_zero, Int.toNat_natCast, Nat.zero_add, OR.mk.injEq, and_true, eq_iff_iff, iff_true, true_or, true_and]
  omega
theorem kOps_copy {t t2 e s1 b1 n m id : Nat} {z1 : Value} {E : TI} {dx xx : Operand} {x : PV} {old cs new : List UInt8} {L2 : LH} (hk : o.op = .call ⟨.builtin .copy, #[dx, xx], #[t, t2]⟩) (hg : o.guard = none) (hd : o.dst = some d) (hm : dm mode o.op = false)
    (hdx : findO env dx = some (.own id 0 n 1)) (hx : findO env xx = some x) (hL : L[id]? = some (.cells (old.map bv))) (hT : tyOf P t = some ⟨.slice e, s1, b1, z1⟩) (hE : tyOf P e = some E) (h1 : E.size = 1)
    (hX : Byt L x m cs) (hc : cs.take n ++ old.drop m = new) (hL2 : L.set id (.cells (new.map bv)) = L2) (hn : n = old.length)
    (h : vOps P Γ mode all r ((d, .lit (.int .i64 ((min m n : Nat) : Int))) :: env) L2 k) : vOps P Γ mode all (o :: r) env L k := by
  subst hc hL2
  refine vOps_op (pre := True) (val := .lit (.int .i64 ((min m n : Nat) : Int))) (L' := L.set id (.cells ((cs.take n ++ old.drop m).map bv))) hg hd (by rw [hk]) ?_ trivial h
  rw [hm, hk]
  have hl := hX.len
  have e1 : cs.take (min m n) = cs.take n := by
    rw [Nat.min_comm, ← List.take_take, List.take_of_length_le (l := cs) (i := m) (by omega)]
  have e2 : old.drop (min m n) = old.drop m := by
    rcases Nat.le_total m n with h | h
    · rw [Nat.min_eq_left h]
    · rw [Nat.min_eq_right h, List.drop_eq_nil_of_le (by omega), List.drop_eq_nil_of_le (by omega)]
  simp only [opF, findO_eval hdx, findO_eval hx, copyF, hT, hE, hL, h1, hX.num, hX.row, Nat.mul_one, List.take_zero, List.nil_append, Nat.zero_add, List.length_map, List.map_append, ← List.map_take, ← List.map_drop, e1, e2, OR.mk.injEq, and_true, eq_iff_iff, iff_true]
  exact ⟨⟨hX.ok, trivial, hl.symm, by omega⟩, trivial, by simp⟩
theorem kOps_frz {t id n : Nat} {ops : List Oper} {bs : List UInt8} {L2 : LH} (hl : find env t = some (.own id 0 n 1)) (hL : L[id]? = some (.cells (bs.map bv))) (hL2 : L.set id .dead = L2) (hn : n = bs.length)
    (h : vOps P Γ .seq all ops ((t, .ro n (bs.map bv)) :: env) L2 k) : vOps P Γ .seq all ops env L k := by
  subst hL2
  have hb := byt_own hL hn
  have e : slc L (.own id 0 n 1) = ((slc L (.own id 0 n 1)).1, n, bs.map bv) :=
    Prod.ext rfl (Prod.ext hb.num hb.row)
  exact vOps_freeze (pre := (slc L (.own id 0 n 1)).1) (cs := bs.map bv) (find_lookup hl) e hb.ok (closedL_bv bs) h
theorem kOps_bsl {t e s1 b1 m q : Nat} {z1 : Value} {E : TI} {ps : List PV} {qs : List (Nat × PV)} {parts : Array (Nat × Operand)} (hk : o.op = .buildSlice t m parts) (hg : o.guard = none) (hd : o.dst = some d) (hm : dm mode o.op = false) (hx : findP env parts.toList = some qs) (hqs : qs = (List.range' 0 m).zip ps) (hT : tyOf P t = some ⟨.slice e, s1, b1, z1⟩) (hE : tyOf P e = some E) (h1 : E.size = 1) (hz : E.zero.cells.toList.length = 1) (hz2 : ∀ v ∈ E.zero.cells.toList, v.oneCell' = true)
    (hq : L.length = q) (hlen : ps.length = m) (h0 : 0 < m) (hle : m ≤ 16777216) (hc : ∀ p ∈ ps, p.cells = [p] ∧ PV.one p = true)
    (h : vOps P Γ mode all r ((d, .own q 0 m 1) :: env) (L ++ [.cells ps]) k) : vOps P Γ mode all (o :: r) env L k := by
  refine vOps_op (pre := True) (val := .own q 0 m 1) (L' := L ++ [.cells ps]) hg hd (by rw [hk]) ?_ trivial h
  rw [hm, hk]
  subst hqs
  simp only [opF, findP_eval hx, buildS hT hE h1 hz hz2 rfl hlen h0 hle hc, fresh_own, hq]
theorem kOps_bsd {t e s1 b1 m : Nat} {z1 : Value} {E : TI} {ps : List PV} {qs : List (Nat × PV)} {parts : Array (Nat × Operand)} (hk : o.op = .buildSlice t m parts) (hg : o.guard = none) (hd : o.dst = some d) (hm : dm mode o.op = true) (hx : findP env parts.toList = some qs) (hqs : qs = (List.range' 0 m).zip ps) (hT : tyOf P t = some ⟨.slice e, s1, b1, z1⟩) (hE : tyOf P e = some E) (h1 : E.size = 1) (hz : E.zero.cells.toList.length = 1) (hz2 : ∀ v ∈ E.zero.cells.toList, v.oneCell' = true)
    (hlen : ps.length = m) (h0 : 0 < m) (hle : m ≤ 16777216) (hc : ∀ p ∈ ps, p.cells = [p] ∧ PV.one p = true)
    (h : vOps P Γ mode all r ((d, .ro m ps) :: env) L k) : vOps P Γ mode all (o :: r) env L k := by
  refine vOps_op (pre := True) (val := .ro m ps) (L' := L) hg hd (by rw [hk]) ?_ trivial h
  rw [hm, hk]
  subst hqs
  simp only [opF, findP_eval hx, buildS hT hE h1 hz hz2 rfl hlen h0 hle hc, fresh_ro]
theorem pure_call {draw : Bool} {g : FuncId} {S : List PV → Prop × PV} {ps qs : List PV} {pre : Prop} {val : PV} (hΓ : Γ.tab g = .pure S) (hb : BorL L ps qs) (hv : S qs = (pre, val)) (hp : pre) (hf : closedL ps = true ∨ flat val = true) :
    callF Γ draw g ps L = ⟨True, (adopt draw val L).1, (adopt draw val L).2⟩ := by
  simp only [callF, hΓ, pureF, hb.1, hv, OR.mk.injEq, and_true, eq_iff_iff, iff_true]
  exact ⟨hp, hb.2, hf⟩
theorem kOps_callb {g : FuncId} {args : Array Operand} {tys : Array TypeId} {S : List PV → Prop × PV} {ps qs : List PV} {pre : Prop} {val : PV} (hk : o.op = .call ⟨.value (.func g), args, tys⟩) (hg : o.guard = none) (hd : o.dst = some d) (hΓ : Γ.tab g = .pure S) (hx : findL env args.toList = some ps) (hb : BorL L ps qs) (hv : S qs = (pre, val)) (hr : closed val = true) (hf : closedL ps = true ∨ flat val = true) (hp : pre)
    (h : vOps P Γ mode all r ((d, val) :: env) L k) : vOps P Γ mode all (o :: r) env L k := by
  refine vOps_call (b := dm mode o.op) (pre := True) (val := val) (L' := L) hk hg hd rfl ?_ trivial h
  rw [findL_eval hx, pure_call hΓ hb hv hp hf, adopt_closed hr]
theorem kOps_calln {g : FuncId} {args : Array Operand} {tys : Array TypeId} {S : List PV → Prop × PV} {ps qs cs : List PV} {pre : Prop} {n sz q : Nat} (hk : o.op = .call ⟨.value (.func g), args, tys⟩) (hg : o.guard = none) (hd : o.dst = some d) (hm : dm mode o.op = false) (hΓ : Γ.tab g = .pure S) (hx : findL env args.toList = some ps) (hb : BorL L ps qs) (hv : S qs = (pre, .new n sz cs)) (hq : L.length = q) (hf : closedL ps = true ∨ flatL cs = true) (hp : pre)
    (h : vOps P Γ mode all r ((d, .own q 0 n sz) :: env) (L ++ [.cells cs]) k) : vOps P Γ mode all (o :: r) env L k := by
  refine vOps_call (b := false) (pre := True) (val := .own q 0 n sz) (L' := L ++ [.cells cs]) hk hg hd hm ?_ trivial h
  rw [findL_eval hx, pure_call hΓ hb hv hp (by simpa only [flat] using hf), adopt_new, fresh_own, hq]
theorem kOps_calld {g : FuncId} {args : Array Operand} {tys : Array TypeId} {S : List PV → Prop × PV} {ps qs cs : List PV} {pre : Prop} {n sz : Nat} (hk : o.op = .call ⟨.value (.func g), args, tys⟩) (hg : o.guard = none) (hd : o.dst = some d) (hm : dm mode o.op = true) (hΓ : Γ.tab g = .pure S) (hx : findL env args.toList = some ps) (hb : BorL L ps qs) (hv : S qs = (pre, .new n sz cs)) (hf : closedL ps = true ∨ flatL cs = true) (hp : pre)
    (h : vOps P Γ mode all r ((d, .ro n cs) :: env) L k) : vOps P Γ mode all (o :: r) env L k := by
  refine vOps_call (b := true) (pre := True) (val := .ro n cs) (L' := L) hk hg hd hm ?_ trivial h
  rw [findL_eval hx, pure_call hΓ hb hv hp (by simpa only [flat] using hf), adopt_new, fresh_ro]
end kinds
theorem zip2r {n m : Nat} {a b : List UInt8} (h1 : n = a.length) (h2 : m = b.length) : [(0, PV.ro n (a.map bv)), (1, PV.ro m (b.map bv))] = (List.range' 0 2).zip ([a, b].map rowB) := by subst h1 h2; rfl
theorem zip3r {n m l : Nat} {a b c : List UInt8} (h1 : n = a.length) (h2 : m = b.length) (h3 : l = c.length) : [(0, PV.ro n (a.map bv)), (1, PV.ro m (b.map bv)), (2, PV.ro l (c.map bv))] = (List.range' 0 3).zip ([a, b, c].map rowB) := by subst h1 h2 h3; rfl
theorem one_cells_bv {bs : List UInt8} : ∀ p ∈ bs.map bv, p.cells = [p] ∧ PV.one p = true := by
  intro p hp; rw [List.mem_map] at hp; obtain ⟨b, _, rfl⟩ := hp; exact ⟨rfl, rfl⟩
theorem one_cells_rows {bss : List (List UInt8)} : ∀ p ∈ bss.map rowB, p.cells = [p] ∧ PV.one p = true := by
  intro p hp; rw [List.mem_map] at hp; obtain ⟨b, _, rfl⟩ := hp; exact ⟨rfl, rfl⟩
theorem drop_rest {bs : List UInt8} {l w : Nat} (h : l + w = bs.length) : (bs.drop l).take w = bs.drop l := List.take_of_length_le (by simp; omega)
theorem fin_new {fn : Func} {t id n : Nat} {bs : List UInt8} {e : Exit} (he : e = .normal ∨ e = .ret) (hr : fn.results.toList = [.tmp t]) (hl : find env t = some (.own id 0 n 1)) (hL : L[id]? = some (.cells (bs.map bv))) (hn : n = bs.length) : Fin P fn (newB bs) e env L :=
  fin_bytes (pre := True) he hr (by rw [resOne_tmp, find_lookup hl]) trivial hL (Nat.zero_le _) hn (by rw [List.drop_zero, hn, take_bytes])
theorem fin_none {fn : Func} {t id : Nat} {cs : List PV} {e : Exit} (he : e = .normal ∨ e = .ret) (hr : fn.results.toList = [.tmp t]) (hl : find env t = some (.own id 0 0 1)) (hL : L[id]? = some (.cells cs)) : Fin P fn (.new 0 1 []) e env L := by
  have := fin_bytes (P := P) (bs := []) (pre := True) he hr (by rw [resOne_tmp, find_lookup hl]; rfl) trivial hL (Nat.zero_le _) rfl (by simp)
  exact this
end Go.Ab
namespace Go.Ab
open Go Go.RowKit
set_option linter.unusedVariables false
set_option linter.unusedSimpArgs false
theorem isB_iff {n : Nat} {bs : List UInt8} (h : n = bs.length) : isB n (bs.map bv) ↔ True := by subst h; exact isB_bv bs
def sConcatR : List PV → Prop × PV
  | [.ro n cs] => (n = cs.length ∧ 1 ≤ n ∧ n ≤ 1000 ∧ isRows cs ∧ (rowsOf cs).flatten.length ≤ 140737488355328, newB (rowsOf cs).flatten)
  | _ => (False, .any)
theorem flat_next {bss : List (List UInt8)} {i : Nat} (h : i < bss.length) : (bss.take (i + 1)).flatten = (bss.take i).flatten ++ bss.getD i [] := by
  rw [List.take_add_one, List.getElem?_eq_getElem h, List.flatten_append, List.getD_eq_getElem?_getD, List.getElem?_eq_getElem h]
  simp
theorem flat_le (bss : List (List UInt8)) (i : Nat) : (bss.take i).flatten.length ≤ bss.flatten.length := by
  conv => rhs; rw [← List.take_append_drop i bss, List.flatten_append, List.length_append]
  omega
end Go.Ab
namespace Go.Ab
set_option linter.unusedVariables false
set_option linter.unusedSimpArgs false
end Go.Ab
namespace Go.Ab
set_option linter.unusedVariables false
set_option linter.unusedSimpArgs false
theorem rowsOf_c (b : List UInt8) (r : List PV) : rowsOf (rowB b :: r) = b :: rowsOf r := by
  show bytesOf (b.map bv) :: rowsOf r = _
  rw [bytesOf_bv]
theorem rowsOf_n : rowsOf [] = [] := rfl
theorem isRows_c (b : List UInt8) (r : List PV) : isRows (rowB b :: r) ↔ isRows r := ⟨fun h => h.2, fun h => ⟨(isB_bv b).2 trivial, h⟩⟩
theorem isRows_n : isRows [] ↔ True := Iff.rfl
end Go.Ab
namespace Go.Ab
set_option linter.unusedVariables false
set_option linter.unusedSimpArgs false
end Go.Ab
namespace Go.Ab
open Go Go.RowKit
set_option linter.unusedVariables false
set_option linter.unusedSimpArgs false
section
variable {P : Program} {Γ : Con} {L : LH} {env : Env} {mode : Mode} {all r : List Oper} {o : Oper} {k : Env → LH → Prop} {d : Nat}
theorem kOps_str {s t e s1 b1 s2 b2 m : Nat} {z1 z2 : Value} {xx : Operand} {x : PV} {cs : List UInt8} (hk : o.op = .convert s t xx) (hg : o.guard = none) (hd : o.dst = some d) (hx : findO env xx = some x) (hS : tyOf P s = some ⟨.slice e, s1, b1, z1⟩) (hT : tyOf P t = some ⟨.string, s2, b2, z2⟩) (hE : tyOf P e = some ⟨.int .u8, 1, 1, .int .u8 0⟩) (hX : Byt L x m cs)
    (h : vOps P Γ mode all r ((d, .lit (.string ⟨cs.toArray⟩)) :: env) L k) : vOps P Γ mode all (o :: r) env L k := by
  refine vOps_conv (pre := True) (val := .lit (.string ⟨cs.toArray⟩)) (L' := L) hk hg hd ?_ trivial h
  rw [findO_eval hx]
  have hp := (isByte_bv cs).2 trivial
  simp only [convF, hS, hT, hE, hX.ok, hX.row, hX.num, List.length_map, map_byteOf_bv, OR.mk.injEq, and_true, eq_iff_iff, iff_true, true_and]
  exact ⟨hX.len.symm, hp⟩
theorem eql_bv {t : TypeId} (a b : UInt8) : binF P .eql t (bv a) (bv b) L = ⟨True, .lit (.bool (decide (a = b))), L⟩ := by
  simp only [bv, binF_eql, OR.mk.injEq, PV.lit.injEq, Value.bool.injEq, true_and, and_true, decide_eq_decide, Int.ofNat_inj]
  exact UInt8.toNat_inj
theorem str_same (s : ByteArray) : (s.toList == s.toList) = true := by simp
end
def sSaneS : List PV → Prop × PV
  | [] => (True, .lit (.bool true))
  | _ => (False, .any)
end Go.Ab
namespace Go.Ab
set_option linter.unusedVariables false
set_option linter.unusedSimpArgs false
theorem by_nil : bytesOf [] = [] := rfl
end Go.Ab
namespace Go.Ab
set_option linter.unusedVariables false
set_option linter.unusedSimpArgs false
theorem isB_nil : isB 0 [] ↔ True := isB_bv []
end Go.Ab
namespace Go.Ab
open Go Go.RowKit
set_option linter.unusedVariables false
set_option linter.unusedSimpArgs false
end Go.Ab
namespace Go.Ab
open Go Go.RowKit
set_option linter.unusedVariables false
set_option linter.unusedSimpArgs false
section
variable {P : Program} {Γ : Con} {L : LH} {env : Env} {mode : Mode} {all r : List Oper} {o : Oper} {k : Env → LH → Prop} {d : Nat}
theorem kOps_slq {t e s1 b1 m : Nat} {z1 : Value} {E : TI} {xx : Operand} {bs : List UInt8} (hk : o.op = .slice t xx none none none) (hg : o.guard = none) (hd : o.dst = some d) (hx : findO env xx = some (.rptr (bs.map bv))) (hT : tyOf P t = some ⟨.array m e, s1, b1, z1⟩) (hE : tyOf P e = some E) (h1 : E.size = 1) (hm : bs.length = m ∧ 0 < m)
    (h : vOps P Γ mode all r ((d, .ro m (bs.map bv)) :: env) L k) : vOps P Γ mode all (o :: r) env L k := by
  refine vOps_op (pre := True) (val := .ro m (bs.map bv)) (L' := L) hg hd (by rw [hk]) ?_ trivial h
  rw [hk]
  simp only [opF, findO_eval hx, sliceF, hT, hE, Option.map_none, ints?, h1, Nat.mul_one, List.length_map, Nat.zero_lt_one, and_true, true_and, OR.mk.injEq, eq_iff_iff, iff_true]
  exact ⟨hm.2, hm.1⟩
end
def key64 (k : List UInt8) : List UInt8 := if 64 < k.length then (sum k) ++ List.replicate 32 0 else k ++ List.replicate (64 - k.length) 0
def mask (m : UInt8) (b : List UInt8) : List UInt8 := b.map (· ^^^ m)
def hmac (k b : List UInt8) : List UInt8 := sum (mask 92 (key64 k) ++ sum (mask 54 (key64 k) ++ b))
def tagged (t b : List UInt8) : List UInt8 := sum (sum t ++ sum t ++ b)
attribute [irreducible] mask key64 hmac tagged
end Go.Ab
namespace Go.Ab
end Go.Ab
namespace Go.Ab
open Go Go.RowKit
end Go.Ab
namespace Go.Ab
set_option linter.unusedVariables false
theorem lit0b : PV.lit (.int .u8 0) = bv 0 := rfl
end Go.Ab
namespace Go.Ab
open Go Go.RowKit
section
variable {P : Program} {Γ : Con} {mode : Mode} {all r : List Oper} {o : Oper} {k : Env → LH → Prop} {env : Env} {L : LH} {d : Nat}
end
theorem neq_uw {P : Program} {L : LH} {t : Nat} (x : W) : binF P .neq t (uw x) (uw x) L = ⟨True, .lit (.bool false), L⟩ := by
  unfold uw
  rw [binF_neq]; simp
end Go.Ab
namespace Go.Ab
open Go Go.RowKit
end Go.Ab
namespace Go.Ab
open Go Go.RowKit
end Go.Ab
namespace Go.Ab
open Go Go.RowKit
end Go.Ab
namespace Go.Ab
open Go Go.RowKit
set_option linter.unusedVariables false
set_option linter.unusedSimpArgs false
def leF (n j : Nat) : UInt8 := UInt8.ofNat (n / 2 ^ (8 * j))
def leB (n w : Nat) : List UInt8 := (List.range w).map (leF n)
theorem len_leB (n w : Nat) : (leB n w).length = w := by simp [leB]
theorem leB_zero (n : Nat) : leB n 0 = [] := rfl
theorem leB_succ (n i : Nat) : leB n i ++ [leF n i] = leB n (i + 1) := by simp [leB, List.range_succ]
theorem leF_def (n i : Nat) : UInt8.ofNat (n / 2 ^ (8 * i)) = leF n i := rfl
theorem leB_fill (n w : Nat) : fill w 0 (leF n) w = leB n w := fill_all ..
attribute [irreducible] leB leF
def sLittle : List PV → Prop × PV
  | [x, .lit (.int .i64 w)] => (isul x ∧ 0 ≤ w ∧ w ≤ 8, newB (leB (ulv x) w.toNat))
  | _ => (False, .any)
def sJoined : List PV → Prop × PV
  | [.ro n cs, .ro m ds] => (isB n cs ∧ isB m ds ∧ n + m ≤ 140737488355328, newB (bytesOf cs ++ bytesOf ds))
  | _ => (False, .any)
end Go.Ab
namespace Go.Ab
open Go Go.RowKit
def sApp16 : List PV → Prop × PV
  | [.ro n cs, .lit (.int .u16 v)] => (isB n cs ∧ 0 ≤ v ∧ v < 65536 ∧ n ≤ 1048576, newB (bytesOf cs ++ leB v.toNat 2))
  | _ => (False, .any)
def sApp32 : List PV → Prop × PV
  | [.ro n cs, .lit (.int .u32 v)] => (isB n cs ∧ 0 ≤ v ∧ v < 4294967296 ∧ n ≤ 1048576, newB (bytesOf cs ++ leB v.toNat 4))
  | _ => (False, .any)
def sApp64 : List PV → Prop × PV
  | [.ro n cs, x] => (isB n cs ∧ isul x ∧ n ≤ 1048576, newB (bytesOf cs ++ leB (ulv x) 8))
  | _ => (False, .any)
def sAppH : List PV → Prop × PV
  | [.ro n cs, .agg ds] => (isB n cs ∧ isB 32 ds ∧ n ≤ 1048576, newB (bytesOf cs ++ bytesOf ds))
  | _ => (False, .any)
def szB (n : Nat) : List UInt8 :=
  if n < 253 then leB n 1 else if n < 65536 then 253 :: leB n 2 else if n < 4294967296 then 254 :: leB n 4 else 255 :: leB n 8
theorem len_szB (n : Nat) : (szB n).length ≤ 9 := by
  unfold szB
  split
  · simp [len_leB]
  · split
    · simp [len_leB]
    · split <;> simp [len_leB]
def sSize : List PV → Prop × PV
  | [x] => (isul x, newB (szB (ulv x)))
  | _ => (False, .any)
def sAppS : List PV → Prop × PV
  | [.ro n cs, x] => (isB n cs ∧ isul x ∧ n ≤ 1048576, newB (bytesOf cs ++ szB (ulv x)))
  | _ => (False, .any)
def sAppB : List PV → Prop × PV
  | [.ro n cs, .ro m ds] => (isB n cs ∧ isB m ds ∧ n ≤ 1048576 ∧ m ≤ 1048576, newB (bytesOf cs ++ szB m ++ bytesOf ds))
  | _ => (False, .any)
theorem wrap_ul (m : Nat) : PV.lit (.int .u64 (IntKind.wrap .u64 (m : Int))) = ul m := by
  simp only [ul, PV.lit.injEq, Value.int.injEq, true_and, wrapU]
  omega
end Go.Ab
namespace Go.Ab
open Go Go.RowKit
theorem conv_ul16 {P : Program} {L : LH} {s d s1 b1 s2 b2 n : Nat} {z1 z2 : Value} (h1 : tyOf P s = some ⟨.int .u64, s1, b1, z1⟩) (h2 : tyOf P d = some ⟨.int .u16, s2, b2, z2⟩) (h : n < 65536) : convF P s d (ul n) L = ⟨True, .lit (.int .u16 (n : Int)), L⟩ := by
  unfold ul
  rw [conv_int h1 h2, Nat.mod_eq_of_lt (show n < 18446744073709551616 by omega), wrap_u16 (by omega) (by omega)]
theorem conv_ul32 {P : Program} {L : LH} {s d s1 b1 s2 b2 n : Nat} {z1 z2 : Value} (h1 : tyOf P s = some ⟨.int .u64, s1, b1, z1⟩) (h2 : tyOf P d = some ⟨.int .u32, s2, b2, z2⟩) (h : n < 4294967296) : convF P s d (ul n) L = ⟨True, .lit (.int .u32 (n : Int)), L⟩ := by
  unfold ul
  rw [conv_int h1 h2, Nat.mod_eq_of_lt (show n < 18446744073709551616 by omega), wrap_u32 (by omega) (by omega)]
theorem szB_1 {n : Nat} (h : n < 253) : szB n = leB n 1 := by simp [szB, h]
theorem szB_2 {n : Nat} (h1 : ¬ n < 253) (h : n < 65536) : szB n = 253 :: leB n 2 := by simp [szB, h1, h]
theorem szB_3 {n : Nat} (h1 : ¬ n < 253) (h2 : ¬ n < 65536) (h : n < 4294967296) : szB n = 254 :: leB n 4 := by simp [szB, h1, h2, h]
theorem szB_4 {n : Nat} (h1 : ¬ n < 253) (h2 : ¬ n < 65536) (h : ¬ n < 4294967296) : szB n = 255 :: leB n 8 := by simp [szB, h1, h2, h]
attribute [irreducible] szB
end Go.Ab
namespace Go.Ab
open Go Go.RowKit
theorem by_one (x : UInt8) : bytesOf [bv x] = [x] := bytesOf_bv [x]
theorem isB_bv1 (x : UInt8) : isB 1 [bv x] ↔ True := isB_bv [x]
end Go.Ab
namespace Go.Ab
open Go Go.RowKit
def needE (n : Nat) (a w : Int) : Int := if a < 0 then 5 else if (n : Int) < a then 5 else if (n : Int) - a < w then 1 else 0
def sNeed : List PV → Prop × PV
  | [.ro n cs, .lit (.int .i64 a), .lit (.int .i64 w)] => (isB n cs ∧ n ≤ 9223372036854775807 ∧ -9223372036854775808 ≤ a ∧ a ≤ 9223372036854775807, .lit (.int .i64 (needE n a w)))
  | _ => (False, .any)
def sSame : List PV → Prop × PV
  | [.ro n cs, .ro m ds] => (isB n cs ∧ isB m ds, .lit (.bool (bytesOf cs == bytesOf ds)))
  | _ => (False, .any)
def endE (n : Nat) (a : Int) : Int := if a < 0 then 5 else if (n : Int) < a then 5 else if a < (n : Int) then 2 else 0
theorem end_need (n : Nat) (a : Int) : needE n a 0 = if a < 0 then 5 else if (n : Int) < a then 5 else 0 := by
  unfold needE
  split
  · rfl
  · split
    · rfl
    · rw [if_neg (by omega)]
def sEnd : List PV → Prop × PV
  | [.ro n cs, .lit (.int .i64 a)] => (isB n cs ∧ n ≤ 9223372036854775807 ∧ -9223372036854775808 ≤ a ∧ a ≤ 9223372036854775807, .lit (.int .i64 (endE n a)))
  | _ => (False, .any)
end Go.Ab
namespace Go.Ab
open Go Go.RowKit
def leV : List UInt8 → Nat
  | [] => 0
  | x :: r => x.toNat + 256 * leV r
theorem leV_lt : ∀ l : List UInt8, leV l < 256 ^ l.length
  | [] => by simp [leV]
  | x :: r => by
    have h1 := leV_lt r
    have h2 := x.toNat_lt
    rw [leV, List.length_cons, Nat.pow_succ]
    omega
theorem leV_snoc : ∀ (l : List UInt8) (x : UInt8), leV (l ++ [x]) = leV l + x.toNat * 256 ^ l.length
  | [], x => by simp [leV]
  | y :: r, x => by
    rw [List.cons_append, leV, leV, leV_snoc r x, List.length_cons, Nat.pow_succ, Nat.mul_add, Nat.mul_comm (256 ^ r.length) 256, Nat.mul_left_comm]
    omega
def rdV (b : List UInt8) (a w : Nat) : Nat := leV ((b.drop a).take w)
theorem rdV_lt {b : List UInt8} {a w : Nat} : rdV b a w < 256 ^ w :=
  Nat.lt_of_lt_of_le (leV_lt _) (Nat.pow_le_pow_right (by decide) (by rw [List.length_take]; omega))
theorem rdV_succ {b : List UInt8} {a i : Nat} (h : a + i < b.length) : rdV b a (i + 1) = rdV b a i + (b.getD (a + i) 0).toNat * 256 ^ i := by
  unfold rdV
  have hl : i < (b.drop a).length := by rw [List.length_drop]; omega
  rw [List.take_add_one, List.getElem?_eq_getElem hl, Option.toList_some, leV_snoc, List.length_take, Nat.min_eq_left (by omega), List.getElem_drop, List.getD_eq_getElem?_getD, List.getElem?_eq_getElem h, Option.getD_some]
theorem or_part {v x i : Nat} (h : v < 256 ^ i) : v ||| x * 2 ^ (8 * i) = v + x * 256 ^ i := by
  have e : (256 : Nat) ^ i = 2 ^ (8 * i) := by rw [Nat.pow_mul]
  rw [e] at h ⊢
  rw [Nat.or_comm, ← Nat.shiftLeft_eq, ← Nat.shiftLeft_add_eq_or_of_lt h, Nat.shiftLeft_eq, Nat.add_comm]
theorem leV_leF (n : Nat) : ∀ w, leV ((List.range w).map fun j => UInt8.ofNat (n / 2 ^ (8 * j))) = n % 256 ^ w
  | 0 => by simp [leV, Nat.mod_one]
  | w + 1 => by
    rw [List.range_succ, List.map_append, List.map_singleton, leV_snoc, leV_leF n w, List.length_map, List.length_range, UInt8.toNat_ofNat']
    have e : (256 : Nat) ^ w = 2 ^ (8 * w) := by rw [Nat.pow_mul]
    rw [← e, show (2 : Nat) ^ 8 = 256 from rfl, Nat.pow_succ, Nat.mod_mul (a := 256 ^ w) (b := 256), Nat.mul_comm (256 ^ w)]
theorem leV_leB (n w : Nat) : leV (leB n w) = n % 256 ^ w := by
  unfold leB
  rw [← leV_leF n w]
  congr 2
  funext j
  unfold leF
  rfl
end Go.Ab
namespace Go.Ab
open Go Go.RowKit
theorem wrap_m256 (m : Nat) : IntKind.i64.wrap ((m % 256 : Nat) : Int) = ((m % 256 : Nat) : Int) := wrap_i64 (by omega) (by omega)
end Go.Ab
namespace Go.Ab
open Go Go.RowKit
theorem blen64 : blen 18446744073709551615 = 64 := by decide +kernel
theorem need_ok {n : Nat} {a w : Int} (h : needE n a w = 0) : 0 ≤ a ∧ a + w ≤ n ∨ 0 ≤ a ∧ a ≤ n ∧ w ≤ 0 := by
  unfold needE at h
  split at h
  · omega
  · split at h
    · omega
    · split at h
      · omega
      · left; omega
def sInt64 : List PV → Prop × PV
  | [.ro n cs, .lit (.int .i64 a)] => (isB n cs ∧ n ≤ 9223372036854775807 ∧ -9223372036854775808 ≤ a ∧ a ≤ 9223372036854775807,
      if needE n a 8 = 0 then .tup [ul (rdV (bytesOf cs) a.toNat 8), .lit (.int .i64 (a + 8)), .lit (.int .i64 0)] else .tup [ul 0, .lit (.int .i64 0), .lit (.int .i64 (needE n a 8))])
  | _ => (False, .any)
end Go.Ab
namespace Go.Ab
open Go Go.RowKit
theorem conv0 {P : Program} {L : LH} {s d s1 b1 s2 b2 : Nat} {z1 z2 : Value} (h1 : tyOf P s = some ⟨.int .i64, s1, b1, z1⟩) (h2 : tyOf P d = some ⟨.int .u64, s2, b2, z2⟩) : convF P s d (.lit (.int .i64 0)) L = ⟨True, ul 0, L⟩ := conv_nat (n := 0) h1 h2
end Go.Ab
namespace Go.Ab
open Go Go.RowKit
theorem rd_or {b : List UInt8} {m i : Nat} (h : m + i < b.length) : rdV b m i ||| (b.getD (m + i) 0).toNat * 2 ^ (8 * i) = rdV b m (i + 1) := by
  rw [or_part rdV_lt, rdV_succ h]
theorem ren_rd {k : List Nat} {b : List UInt8} {m i : Nat} (h : m + i < b.length) : RenOk k (ul (rdV b m i ||| (b.getD (m + i) 0).toNat * 2 ^ (8 * i))) (ul (rdV b m (i + 1))) := by
  rw [rd_or h]; exact ren_keep rfl
end Go.Ab
namespace Go.Ab
open Go Go.RowKit
theorem rdV_cons {b : List UInt8} {a j : Nat} (h : a < b.length) : rdV b a (j + 1) = (b.getD a 0).toNat + 256 * rdV b (a + 1) j := by
  unfold rdV
  rw [List.drop_eq_getElem_cons h, List.take_succ_cons, leV, List.getD_eq_getElem?_getD, List.getElem?_eq_getElem h, Option.getD_some]
theorem rd_or2 {b : List UInt8} {a j : Nat} (h : a < b.length) : rdV b (a + 1) j * 2 ^ 8 ||| (b.getD a 0).toNat = rdV b a (j + 1) := by
  rw [rdV_cons h, ← Nat.shiftLeft_eq, ← Nat.shiftLeft_add_eq_or_of_lt (b.getD a 0).toNat_lt, Nat.shiftLeft_eq]
  omega
def sNumber : List PV → Prop × PV
  | [.ro n cs, .lit (.int .i64 a), .lit (.int .i64 w)] => (isB n cs ∧ n ≤ 9223372036854775807 ∧ -9223372036854775808 ≤ a ∧ a ≤ 9223372036854775807 ∧ 0 < w ∧ w ≤ 8,
      if needE n a w = 0 then .tup [ul (rdV (bytesOf cs) a.toNat w.toNat), .lit (.int .i64 (a + w)), .lit (.int .i64 0)] else .tup [ul 0, .lit (.int .i64 0), .lit (.int .i64 (needE n a w))])
  | _ => (False, .any)
end Go.Ab
namespace Go.Ab
open Go Go.RowKit
theorem ren_rd2 {k : List Nat} {b : List UInt8} {a q j : Nat} (hq : q = a + 1) (h : a < b.length) : RenOk k (ul (rdV b q j * 2 ^ 8 ||| (b.getD a 0).toNat)) (ul (rdV b a (j + 1))) := by
  subst hq; rw [rd_or2 h]; exact ren_keep rfl
theorem ren_rd3 {k : List Nat} {b : List UInt8} {a q j : Nat} (hq : q = a + 1) (h : a < b.length) : RenOk k (ul (rdV b q j * 256 ||| (b.getD a 0).toNat)) (ul (rdV b a (j + 1))) := ren_rd2 hq h
end Go.Ab
namespace Go.Ab
open Go Go.RowKit
set_option linter.unusedVariables false
set_option linter.unusedSimpArgs false
section
variable {P : Program} {L : LH} {t : Nat}
theorem not_8 : unF .xor (.lit (.int .u8 0)) L = ⟨True, .lit (.int .u8 255), L⟩ := rfl
theorem not_16 : unF .xor (.lit (.int .u16 0)) L = ⟨True, .lit (.int .u16 65535), L⟩ := rfl
theorem not_32 : unF .xor (.lit (.int .u32 0)) L = ⟨True, .lit (.int .u32 4294967295), L⟩ := rfl
theorem w_8 : PV.lit (.int .u64 (IntKind.u64.wrap 255)) = ul 255 := rfl
theorem w_16 : PV.lit (.int .u64 (IntKind.u64.wrap 65535)) = ul 65535 := rfl
theorem w_32 : PV.lit (.int .u64 (IntKind.u64.wrap 4294967295)) = ul 4294967295 := rfl
theorem blen8 : blen 255 = 8 := by decide +kernel
theorem blen16 : blen 65535 = 16 := by decide +kernel
theorem blen32 : blen 4294967295 = 32 := by decide +kernel
theorem bv_lit (x : UInt8) : bv x = .lit (.int .u8 (x.toNat : Int)) := rfl
theorem uw_bw (x : UInt8) : uw (bw x) = .lit (.int .u32 (x.toNat : Int)) := by
  have := x.toNat_lt
  simp only [uw, bw, BitVec.toNat_ofNat, PV.lit.injEq, Value.int.injEq, true_and]
  omega
theorem wrapU8 (n : Nat) (h : n < 256) : IntKind.u8.wrap (n : Int) = n := wrap_u8 (by omega) (by omega)
theorem wrapU16 (n : Nat) (h : n < 65536) : IntKind.u16.wrap (n : Int) = n := wrap_u16 (by omega) (by omega)
theorem wrapU32 (n : Nat) (h : n < 4294967296) : IntKind.u32.wrap (n : Int) = n := wrap_u32 (by omega) (by omega)
theorem or_any {k : IntKind} {a b : Nat} (ha : a < 2 ^ k.bits) (hb : b < 2 ^ k.bits) (hk : ∀ n : Nat, n < 2 ^ k.bits → k.wrap (n : Int) = n) :
    binF P .or t (.lit (.int k (a : Int))) (.lit (.int k (b : Int))) L = ⟨True, .lit (.int k ((a ||| b : Nat) : Int)), L⟩ := by
  simp only [binF_or, OR.mk.injEq, PV.lit.injEq, Value.int.injEq, true_and, and_true]
  rw [BitVec.ofInt_natCast, BitVec.ofInt_natCast, BitVec.toNat_or, BitVec.toNat_ofNat, BitVec.toNat_ofNat, Nat.mod_eq_of_lt ha, Nat.mod_eq_of_lt hb]
  exact hk _ (Nat.or_lt_two_pow ha hb)
theorem shl_any {k k2 : IntKind} {x i w : Nat} {z : Int} (hx : x < 256) (hz : z = ((8 * i : Nat) : Int)) (hb : k.bits = 8 * w) (hi : i < w) (hk : ∀ n : Nat, n < 2 ^ k.bits → k.wrap (n : Int) = n) :
    binF P .shl t (.lit (.int k (x : Int))) (.lit (.int k2 z)) L = ⟨0 ≤ z, .lit (.int k ((x * 2 ^ (8 * i) : Nat) : Int)), L⟩ := by
  subst hz
  simp only [binF_shl, OR.mk.injEq, PV.lit.injEq, Value.int.injEq, true_and, and_true, Int.toNat_natCast]
  rw [Nat.min_eq_left (by omega)]
  have e : (x : Int) * 2 ^ (8 * i) = ((x * 2 ^ (8 * i) : Nat) : Int) := by simp
  rw [e]
  refine hk _ ?_
  rw [hb]
  calc x * 2 ^ (8 * i) < 2 ^ 8 * 2 ^ (8 * i) := Nat.mul_lt_mul_of_pos_right hx (Nat.two_pow_pos _)
    _ = 2 ^ (8 + 8 * i) := (Nat.pow_add ..).symm
    _ ≤ 2 ^ (8 * w) := Nat.pow_le_pow_right (by decide) (by omega)
theorem rd_lt {b : List UInt8} {m i w : Nat} (h : i ≤ w) : rdV b m i < 2 ^ (8 * w) := by
  have := @rdV_lt b m i
  rw [show (256 : Nat) = 2 ^ 8 from rfl, ← Nat.pow_mul] at this
  exact Nat.lt_of_lt_of_le this (Nat.pow_le_pow_right (by decide) (by omega))
theorem part_lt {x i w : Nat} (hx : x < 256) (hi : i < w) : x * 2 ^ (8 * i) < 2 ^ (8 * w) :=
  calc x * 2 ^ (8 * i) < 2 ^ 8 * 2 ^ (8 * i) := Nat.mul_lt_mul_of_pos_right hx (Nat.two_pow_pos _)
    _ = 2 ^ (8 + 8 * i) := (Nat.pow_add ..).symm
    _ ≤ 2 ^ (8 * w) := Nat.pow_le_pow_right (by decide) (by omega)
end
theorem ren_rdq {k : List Nat} {q : IntKind} {b : List UInt8} {m i : Nat} (h : m + i < b.length) : RenOk k (.lit (.int q ((rdV b m i ||| (b.getD (m + i) 0).toNat * 2 ^ (8 * i) : Nat) : Int))) (.lit (.int q ((rdV b m (i + 1) : Nat) : Int))) := by
  rw [rd_or h]; exact ren_keep rfl
def sInt8 : List PV → Prop × PV
  | [.ro n cs, .lit (.int .i64 a)] => (isB n cs ∧ n ≤ 9223372036854775807 ∧ -9223372036854775808 ≤ a ∧ a ≤ 9223372036854775807,
      if needE n a 1 = 0 then .tup [.lit (.int .u8 ((rdV (bytesOf cs) a.toNat 1 : Nat) : Int)), .lit (.int .i64 (a + 1)), .lit (.int .i64 0)] else .tup [.lit (.int .u8 0), .lit (.int .i64 0), .lit (.int .i64 (needE n a 1))])
  | _ => (False, .any)
def sInt16 : List PV → Prop × PV
  | [.ro n cs, .lit (.int .i64 a)] => (isB n cs ∧ n ≤ 9223372036854775807 ∧ -9223372036854775808 ≤ a ∧ a ≤ 9223372036854775807,
      if needE n a 2 = 0 then .tup [.lit (.int .u16 ((rdV (bytesOf cs) a.toNat 2 : Nat) : Int)), .lit (.int .i64 (a + 2)), .lit (.int .i64 0)] else .tup [.lit (.int .u16 0), .lit (.int .i64 0), .lit (.int .i64 (needE n a 2))])
  | _ => (False, .any)
def sInt32 : List PV → Prop × PV
  | [.ro n cs, .lit (.int .i64 a)] => (isB n cs ∧ n ≤ 9223372036854775807 ∧ -9223372036854775808 ≤ a ∧ a ≤ 9223372036854775807,
      if needE n a 4 = 0 then .tup [.lit (.int .u32 ((rdV (bytesOf cs) a.toNat 4 : Nat) : Int)), .lit (.int .i64 (a + 4)), .lit (.int .i64 0)] else .tup [.lit (.int .u32 0), .lit (.int .i64 0), .lit (.int .i64 (needE n a 4))])
  | _ => (False, .any)
end Go.Ab
namespace Go.Ab
open Go Go.RowKit
section
variable {P : Program} {L : LH} {t : Nat}
theorem wz8 : IntKind.u8.wrap 0 = 0 := rfl
theorem wz16 : IntKind.u16.wrap 0 = 0 := rfl
theorem wz32 : IntKind.u32.wrap 0 = 0 := rfl
theorem shl_bv {a : UInt8} {k : IntKind} : binF P .shl t (bv a) (.lit (.int k 0)) L = ⟨True, bv a, L⟩ := by
  have := a.toNat_lt
  simp only [bv, binF_shl, Int.le_refl, OR.mk.injEq, PV.lit.injEq, Value.int.injEq, true_and, and_true]
  rw [show min (Int.toNat 0) IntKind.u8.bits = 0 from rfl]
  rw [Int.pow_zero, Int.mul_one]
  exact wrapU8 _ (by omega)
theorem or_bv {a b : UInt8} : binF P .or t (bv a) (bv b) L = ⟨True, bv (a ||| b), L⟩ := by
  have h := or_any (P := P) (L := L) (t := t) (k := .u8) (a := a.toNat) (b := b.toNat) a.toNat_lt b.toNat_lt (fun n h => wrapU8 n h)
  rw [bv, bv, h, bv, UInt8.toNat_or]
end
end Go.Ab
namespace Go.Ab
open Go Go.RowKit
set_option linter.unusedVariables false
set_option linter.unusedSimpArgs false
structure R3 where
  v : Nat
  at_ : Int
  e : Int
def tp (r : R3) : PV := .tup [ul r.v, .lit (.int .i64 r.at_), .lit (.int .i64 r.e)]
theorem closed_tp (r : R3) : closed (tp r) = true := rfl
theorem flat_tp (r : R3) : flat (tp r) = true := rfl
def wideR (b : List UInt8) (a : Int) (w least : Nat) : R3 :=
  if needE b.length a w = 0 then if rdV b a.toNat w < least then ⟨0, 0, 3⟩ else ⟨rdV b a.toNat w, a + w, 0⟩ else ⟨0, 0, needE b.length a w⟩
def anyR (b : List UInt8) (a : Int) : R3 :=
  if needE b.length a 1 = 0 then
    if rdV b a.toNat 1 = 253 then wideR b (a + 1) 2 253
    else if rdV b a.toNat 1 = 254 then wideR b (a + 1) 4 65536
    else if rdV b a.toNat 1 = 255 then wideR b (a + 1) 8 4294967296
    else ⟨rdV b a.toNat 1, a + 1, 0⟩
  else ⟨0, 0, needE b.length a 1⟩
def sizeR (b : List UInt8) (a : Int) (most : Nat) : R3 :=
  if (anyR b a).e = 0 then if most < (anyR b a).v then ⟨0, 0, 4⟩ else anyR b a else ⟨0, 0, (anyR b a).e⟩
theorem wideR_n {b : List UInt8} {a : Int} {w least : Nat} (h : ¬ needE b.length a w = 0) : wideR b a w least = ⟨0, 0, needE b.length a w⟩ := by rw [wideR, if_neg h]
theorem wideR_s {b : List UInt8} {a : Int} {w least : Nat} (h : needE b.length a w = 0) (h2 : rdV b a.toNat w < least) : wideR b a w least = ⟨0, 0, 3⟩ := by rw [wideR, if_pos h, if_pos h2]
theorem wideR_o {b : List UInt8} {a : Int} {w least : Nat} (h : needE b.length a w = 0) (h2 : ¬ rdV b a.toNat w < least) : wideR b a w least = ⟨rdV b a.toNat w, a + w, 0⟩ := by rw [wideR, if_pos h, if_neg h2]
theorem anyR_n {b : List UInt8} {a : Int} (h : ¬ needE b.length a 1 = 0) : anyR b a = ⟨0, 0, needE b.length a 1⟩ := by rw [anyR, if_neg h]
theorem anyR_16 {b : List UInt8} {a : Int} (h : needE b.length a 1 = 0) (h2 : rdV b a.toNat 1 = 253) : anyR b a = wideR b (a + 1) 2 253 := by rw [anyR, if_pos h, if_pos h2]
theorem anyR_32 {b : List UInt8} {a : Int} (h : needE b.length a 1 = 0) (h2 : rdV b a.toNat 1 = 254) : anyR b a = wideR b (a + 1) 4 65536 := by
  rw [anyR, if_pos h, if_neg (by omega), if_pos h2]
theorem anyR_64 {b : List UInt8} {a : Int} (h : needE b.length a 1 = 0) (h2 : rdV b a.toNat 1 = 255) : anyR b a = wideR b (a + 1) 8 4294967296 := by
  rw [anyR, if_pos h, if_neg (by omega), if_neg (by omega), if_pos h2]
theorem anyR_8 {b : List UInt8} {a : Int} (h : needE b.length a 1 = 0) (h2 : rdV b a.toNat 1 < 253) : anyR b a = ⟨rdV b a.toNat 1, a + 1, 0⟩ := by
  rw [anyR, if_pos h, if_neg (by omega), if_neg (by omega), if_neg (by omega)]
theorem rd1_lt (b : List UInt8) (m : Nat) : rdV b m 1 < 256 := by have := @rdV_lt b m 1; simpa using this
theorem rd2_lt (b : List UInt8) (m : Nat) : rdV b m 2 < 65536 := by have := @rdV_lt b m 2; simpa using this
theorem rd4_lt (b : List UInt8) (m : Nat) : rdV b m 4 < 4294967296 := by have := @rdV_lt b m 4; simpa using this
theorem rd8_lt (b : List UInt8) (m : Nat) : rdV b m 8 < 18446744073709551616 := by have := @rdV_lt b m 8; simpa using this
theorem wideR_lt (b : List UInt8) (a : Int) {w : Nat} (h : w = 2 ∨ w = 4 ∨ w = 8) (least : Nat) : (wideR b a w least).v < 18446744073709551616 := by
  have h2 := rd2_lt b a.toNat
  have h4 := rd4_lt b a.toNat
  have h8 := rd8_lt b a.toNat
  unfold wideR
  split
  · split
    · show 0 < _; omega
    · rcases h with rfl | rfl | rfl
      · show rdV b a.toNat 2 < _; omega
      · show rdV b a.toNat 4 < _; omega
      · exact h8
  · show 0 < _; omega
theorem anyR_lt (b : List UInt8) (a : Int) : (anyR b a).v < 18446744073709551616 := by
  have h1 := rd1_lt b a.toNat
  unfold anyR
  split
  · split
    · exact wideR_lt b _ (by simp) _
    · split
      · exact wideR_lt b _ (by simp) _
      · split
        · exact wideR_lt b _ (by simp) _
        · show rdV b a.toNat 1 < _; omega
  · show 0 < _; omega
def sWide16 : List PV → Prop × PV
  | [.ro n cs, .lit (.int .i64 a), .lit (.int .u16 l)] => (isB n cs ∧ n ≤ 9223372036854775807 ∧ -9223372036854775808 ≤ a ∧ a ≤ 9223372036854775807 ∧ 0 ≤ l, tp (wideR (bytesOf cs) a 2 l.toNat))
  | _ => (False, .any)
def sWide32 : List PV → Prop × PV
  | [.ro n cs, .lit (.int .i64 a), .lit (.int .u32 l)] => (isB n cs ∧ n ≤ 9223372036854775807 ∧ -9223372036854775808 ≤ a ∧ a ≤ 9223372036854775807 ∧ 0 ≤ l, tp (wideR (bytesOf cs) a 4 l.toNat))
  | _ => (False, .any)
def sWide64 : List PV → Prop × PV
  | [.ro n cs, .lit (.int .i64 a), x] => (isB n cs ∧ n ≤ 9223372036854775807 ∧ -9223372036854775808 ≤ a ∧ a ≤ 9223372036854775807 ∧ isul x, tp (wideR (bytesOf cs) a 8 (ulv x)))
  | _ => (False, .any)
def sAny : List PV → Prop × PV
  | [.ro n cs, .lit (.int .i64 a)] => (isB n cs ∧ n ≤ 9223372036854775807 ∧ -9223372036854775808 ≤ a ∧ a ≤ 9223372036854775807, tp (anyR (bytesOf cs) a))
  | _ => (False, .any)
def sSizeR : List PV → Prop × PV
  | [.ro n cs, .lit (.int .i64 a), x] => (isB n cs ∧ n ≤ 9223372036854775807 ∧ -9223372036854775808 ≤ a ∧ a ≤ 9223372036854775807 ∧ isul x, tp (sizeR (bytesOf cs) a (ulv x)))
  | _ => (False, .any)
theorem bv_0 : bv (UInt8.ofNat 0) = .lit (.int .u8 0) := rfl
theorem bv_rd (b : List UInt8) (m : Nat) : bv (UInt8.ofNat (rdV b m 1)) = .lit (.int .u8 ((rdV b m 1 : Nat) : Int)) := by
  have := rd1_lt b m
  rw [bv, UInt8.toNat_ofNat', Nat.mod_eq_of_lt (by omega)]
section
variable {P : Program} {L : LH} {t : Nat}
theorem lss_uw (a b : W) : binF P .lss t (uw a) (uw b) L = ⟨True, .lit (.bool (decide (a.toNat < b.toNat))), L⟩ := by
  simp only [uw, binF_lss, Int.ofNat_lt]
theorem shl2_0 : binF P .shl t (.lit (.int .i64 2)) (ul 18446744073709551616) L = ⟨True, .lit (.int .i64 2), L⟩ := by
  simp [ul, binF_shl]; rfl
theorem shl2_1 : binF P .shl t (.lit (.int .i64 2)) (ul 18446744073709551617) L = ⟨True, .lit (.int .i64 4), L⟩ := by
  simp [ul, binF_shl]; rfl
theorem shl2_2 : binF P .shl t (.lit (.int .i64 2)) (ul 18446744073709551618) L = ⟨True, .lit (.int .i64 8), L⟩ := by
  simp [ul, binF_shl]; rfl
end
end Go.Ab
namespace Go.Ab
open Go Go.RowKit
set_option linter.unusedVariables false
set_option linter.unusedSimpArgs false
theorem sizeR_e {b : List UInt8} {a e : Int} {most : Nat} (h : anyR b a = ⟨0, 0, e⟩) (he : ¬ e = 0) : sizeR b a most = ⟨0, 0, e⟩ := by rw [sizeR, h, if_neg he]
theorem sizeR_m {b : List UInt8} {a p : Int} {v most : Nat} (h : anyR b a = ⟨v, p, 0⟩) (hm : most < v) : sizeR b a most = ⟨0, 0, 4⟩ := by rw [sizeR, h, if_pos rfl, if_pos hm]
theorem sizeR_k {b : List UInt8} {a p : Int} {v most : Nat} (h : anyR b a = ⟨v, p, 0⟩) (hm : ¬ most < v) : sizeR b a most = ⟨v, p, 0⟩ := by rw [sizeR, h, if_pos rfl, if_neg hm]
theorem sizeR_e2 {b : List UInt8} {a : Int} {most : Nat} (h : ¬ (anyR b a).e = 0) : sizeR b a most = ⟨0, 0, (anyR b a).e⟩ := by rw [sizeR, if_neg h]
theorem sizeR_m2 {b : List UInt8} {a : Int} {most : Nat} (h : (anyR b a).e = 0) (hm : most < (anyR b a).v) : sizeR b a most = ⟨0, 0, 4⟩ := by rw [sizeR, if_pos h, if_pos hm]
theorem sizeR_k2 {b : List UInt8} {a : Int} {most : Nat} (h : (anyR b a).e = 0) (hm : ¬ most < (anyR b a).v) : sizeR b a most = anyR b a := by rw [sizeR, if_pos h, if_neg hm]
theorem tp_eq {v : Nat} {p e : Int} {r : R3} (h : r = ⟨v, p, e⟩) : PV.tup [ul v, .lit (.int .i64 p), .lit (.int .i64 e)] = tp r := by subst h; rfl
theorem tp_ok {r : R3} (h : r.e = 0) : PV.tup [ul r.v, .lit (.int .i64 r.at_), .lit (.int .i64 0)] = tp r := by rw [tp, h]
theorem copy32 {l : List UInt8} {n : Nat} (h : 32 ≤ l.length) (hl : l.length = n) : l.take 32 ++ (List.replicate 32 (0 : UInt8)).drop n = l.take 32 := by
  have e : (List.replicate 32 (0 : UInt8)).drop n = [] := List.drop_eq_nil_of_le (by simp; omega)
  rw [e, List.append_nil]
theorem nd0 {n : Nat} {a : Int} {w : Int} (h : a < 0) : needE n a w = 5 := by simp [needE, h]
theorem nd1 {n : Nat} {a : Int} {w : Int} (h : ¬ a < 0) (h2 : (n : Int) < a) : needE n a w = 5 := by simp [needE, h, h2]
theorem nd2 {n : Nat} {a : Int} {w : Int} (h : ¬ a < 0) (h2 : ¬ (n : Int) < a) (h3 : (n : Int) - a < w) : needE n a w = 1 := by simp [needE, h, h2, h3]
theorem nd3 {n : Nat} {a : Int} {w : Int} (h : ¬ a < 0) (h2 : ¬ (n : Int) < a) (h3 : ¬ (n : Int) - a < w) : needE n a w = 0 := by simp [needE, h, h2, h3]
end Go.Ab
namespace Go.Ab
open Go Go.RowKit
set_option linter.unusedVariables false
set_option linter.unusedSimpArgs false
section
variable {P : Program} {L : LH} {t : Nat}
theorem shr_bv (a : UInt8) : binF P .shr t (bv a) (ul 4) L = ⟨True, bv (UInt8.ofNat (a.toNat / 16)), L⟩ := by
  have := a.toNat_lt
  rw [show ul 4 = .lit (.int .u64 4) from rfl]
  simp only [bv, binF_shr, OR.mk.injEq, PV.lit.injEq, Value.int.injEq, true_and, and_true, UInt8.toNat_ofNat']
  refine ⟨by decide, ?_⟩
  rw [show (2 : Int) ^ min (Int.toNat 4) IntKind.u8.bits = 16 from rfl, Int.fdiv_eq_ediv_of_nonneg _ (by decide)]
  omega
theorem and_bv (a : UInt8) : binF P .and t (bv a) (.lit (.int .u8 15)) L = ⟨True, bv (UInt8.ofNat (a.toNat % 16)), L⟩ := by
  have h := a.toNat_lt
  simp only [bv, binF_and, OR.mk.injEq, PV.lit.injEq, Value.int.injEq, true_and, and_true, UInt8.toNat_ofNat']
  have e : (BitVec.ofInt IntKind.u8.bits (a.toNat : Int) &&& BitVec.ofInt IntKind.u8.bits 15).toNat = a.toNat % 16 := by
    show (BitVec.ofInt 8 (a.toNat : Int) &&& BitVec.ofInt 8 15).toNat = _
    rw [BitVec.ofInt_natCast, BitVec.toNat_and, BitVec.toNat_ofNat, show (BitVec.ofInt 8 15).toNat = 2 ^ 4 - 1 from rfl, Nat.and_two_pow_sub_one_eq_mod]
    omega
  rw [e, wrapU8 _ (by omega)]
  omega
def hexd (x : UInt8) : UInt8 := [48, 49, 50, 51, 52, 53, 54, 55, 56, 57, 97, 98, 99, 100, 101, 102].getD x.toNat 0
theorem hex_ix {s1 b1 : Nat} {z1 : Value} (hT : tyOf P t = some ⟨.string, s1, b1, z1⟩) (x : UInt8) (h : x.toNat < 16) :
    indexF P t (.lit (.string ⟨#[48, 49, 50, 51, 52, 53, 54, 55, 56, 57, 97, 98, 99, 100, 101, 102]⟩)) (bv x) L = ⟨True, bv (hexd x), L⟩ := by
  simp only [indexF, bv, hT, Int.toNat_natCast, hexd, OR.mk.injEq, and_true, eq_iff_iff, iff_true]
  have hs : (ByteArray.size ⟨#[48, 49, 50, 51, 52, 53, 54, 55, 56, 57, 97, 98, 99, 100, 101, 102]⟩) = 16 := rfl
  rw [hs]
  omega
end
def sHexS : List PV → Prop × PV
  | [.ro n cs] => (n = 2 ∧ cs = ([0, 171] : List UInt8).map bv, .lit (.string ⟨#[48, 48, 97, 98]⟩))
  | _ => (False, .any)
theorem hx0 : UInt8.ofNat ((0 : UInt8).toNat / 16) = 0 := rfl
theorem hx1 : UInt8.ofNat ((0 : UInt8).toNat % 16) = 0 := rfl
theorem hx2 : UInt8.ofNat ((171 : UInt8).toNat / 16) = 10 := rfl
theorem hx3 : UInt8.ofNat ((171 : UInt8).toNat % 16) = 11 := rfl
theorem sz253 : szB 253 = [253, 253, 0] := by decide +kernel
theorem sane_e : (sizeR [253, 252, 0] 0 1000).e = 3 := by decide +kernel
theorem lit253 : PV.lit (.int .u8 253) = bv 253 := rfl
theorem isB_s3 : isB 3 (([253, 252, 0] : List UInt8).map bv) ↔ True := isB_iff rfl
def sLCA : List PV → Prop × PV
  | [.ro n cs, .ro m ds, x, .agg es] => (isB n cs ∧ isB m ds ∧ isul x ∧ isB 32 es ∧ n ≤ 9223372036854775807 ∧ m ≤ 9223372036854775807, .lit (.bool true))
  | _ => (False, .any)
def sLCR : List PV → Prop × PV
  | [.ro n cs, .lit (.int .i64 a)] => (isB n cs ∧ n ≤ 9223372036854775807 ∧ -9223372036854775808 ≤ a ∧ a ≤ 9223372036854775807, .lit (.bool true))
  | _ => (False, .any)
def sLCS : List PV → Prop × PV
  | [.ro n cs, .lit (.int .i64 a), .lit (.int .i64 most)] => (isB n cs ∧ n ≤ 140737488351232 ∧ -9223372036854775808 ≤ a ∧ a ≤ 9223372036854775807 ∧ -9223372036854775808 ≤ most ∧ most ≤ 9223372036854775807, .lit (.bool true))
  | _ => (False, .any)
def sLCF : List PV → Prop × PV
  | [.ro n cs, x] => (isB n cs ∧ isul x ∧ n ≤ 9223372036854775807, .lit (.bool true))
  | _ => (False, .any)
end Go.Ab
namespace Go.Ab
theorem by_s3 : bytesOf [bv 253, bv 252, bv 0] = [253, 252, 0] := bytesOf_bv [253, 252, 0]
theorem isB_s3b : isB 3 [bv 253, bv 252, bv 0] ↔ True := isB_s3
end Go.Ab
namespace Go.Ab
theorem len_sz253 : (szB 253).length = 3 := by rw [sz253]; rfl
theorem gz0 : (szB 253).getD 0 0 = 253 := by rw [sz253]; rfl
theorem gz1 : (szB 253).getD 1 0 = 253 := by rw [sz253]; rfl
theorem gz2 : (szB 253).getD 2 0 = 0 := by rw [sz253]; rfl
end Go.Ab
namespace Go.Ab
open Go Go.RowKit
section
variable {P : Program} {L : LH}
theorem conv_m16 {s d s1 b1 s2 b2 n : Nat} {z1 z2 : Value} (h1 : tyOf P s = some ⟨.int .u64, s1, b1, z1⟩) (h2 : tyOf P d = some ⟨.int .u16, s2, b2, z2⟩) : convF P s d (ul n) L = ⟨True, .lit (.int .u16 ((n % 65536 : Nat) : Int)), L⟩ := by
  unfold ul
  rw [conv_int h1 h2]
  simp only [OR.mk.injEq, PV.lit.injEq, Value.int.injEq, true_and, and_true]
  simp [IntKind.wrap, IntKind.bits, IntKind.signed]
theorem conv_m32 {s d s1 b1 s2 b2 n : Nat} {z1 z2 : Value} (h1 : tyOf P s = some ⟨.int .u64, s1, b1, z1⟩) (h2 : tyOf P d = some ⟨.int .u32, s2, b2, z2⟩) : convF P s d (ul n) L = ⟨True, .lit (.int .u32 ((n % 4294967296 : Nat) : Int)), L⟩ := by
  unfold ul
  rw [conv_int h1 h2]
  simp only [OR.mk.injEq, PV.lit.injEq, Value.int.injEq, true_and, and_true]
  simp [IntKind.wrap, IntKind.bits, IntKind.signed]
end
end Go.Ab
namespace Go.Ab
theorem lns : type_of% (And.intro @List.length_map.{0,0} <| And.intro @List.length_set.{0} <| And.intro @List.length_replicate.{0} <| And.intro @len_leB <| And.intro @len_fill <| And.intro @List.length_cons.{0} <| And.intro @List.length_nil.{0} <| And.intro @List.length_append.{0} <| And.intro @List.length_take.{0} @List.length_drop.{0}) :=
  (And.intro @List.length_map.{0,0} <| And.intro @List.length_set.{0} <| And.intro @List.length_replicate.{0} <| And.intro @len_leB <| And.intro @len_fill <| And.intro @List.length_cons.{0} <| And.intro @List.length_nil.{0} <| And.intro @List.length_append.{0} <| And.intro @List.length_take.{0} @List.length_drop.{0})
end Go.Ab
namespace Go.Ab
open Go Go.RowKit
theorem fin_new_eq {P : Program} {L : LH} {env : Env} {fn : Func} {t id n : Nat} {bs cs : List UInt8} {e : Exit} (he : e = .normal ∨ e = .ret) (hr : fn.results.toList = [.tmp t]) (hl : find env t = some (.own id 0 n 1)) (hL : L[id]? = some (.cells (bs.map bv))) (hn : n = bs.length) (h : bs = cs) : Fin P fn (newB cs) e env L := by
  subst h
  exact fin_new he hr hl hL hn
theorem szB_2m {n : Nat} (h1 : ¬ n < 253) (h : n < 65536) : [(253 : UInt8)] ++ leB (n % 65536) 2 = szB n := by rw [szB_2 h1 h, Nat.mod_eq_of_lt h]; rfl
theorem szB_3m {n : Nat} (h1 : ¬ n < 253) (h2 : ¬ n < 65536) (h : n < 4294967296) : [(254 : UInt8)] ++ leB (n % 4294967296) 4 = szB n := by rw [szB_3 h1 h2 h, Nat.mod_eq_of_lt h]; rfl
theorem szB_4m {n : Nat} (h1 : ¬ n < 253) (h2 : ¬ n < 65536) (h3 : ¬ n < 4294967296) : [(255 : UInt8)] ++ leB n 8 = szB n := by rw [szB_4 h1 h2 h3]; rfl
theorem app_2m {b : List UInt8} {n : Nat} (h1 : ¬ n < 253) (h : n < 65536) : b ++ ([(253 : UInt8)] ++ leB n 2) = b ++ szB n := by rw [szB_2 h1 h]; rfl
theorem app_3m {b : List UInt8} {n : Nat} (h1 : ¬ n < 253) (h2 : ¬ n < 65536) (h : n < 4294967296) : b ++ ([(254 : UInt8)] ++ leB n 4) = b ++ szB n := by rw [szB_3 h1 h2 h]; rfl
theorem app_4m {b : List UInt8} {n : Nat} (h1 : ¬ n < 253) (h2 : ¬ n < 65536) (h3 : ¬ n < 4294967296) : b ++ ([(255 : UInt8)] ++ leB n 8) = b ++ szB n := by rw [szB_4 h1 h2 h3]; rfl
theorem app_1m {b : List UInt8} {n : Nat} (h1 : n < 253) : b ++ leB n 1 = b ++ szB n := by rw [szB_1 h1]
end Go.Ab
namespace Go.Ab
open Go Go.RowKit
set_option linter.unusedVariables false
set_option linter.unusedSimpArgs false
def nR (n : Nat) (bs : List UInt8) (a w : Int) (k : Nat) : Nat := if needE n a w = 0 then rdV bs a.toNat k else 0
def pR (n : Nat) (a w : Int) : Int := if needE n a w = 0 then a + w else 0
theorem ite_q {q : IntKind} {n k : Nat} {bs : List UInt8} {a w : Int} :
    (if needE n a w = 0 then PV.tup [.lit (.int q ((rdV bs a.toNat k : Nat) : Int)), .lit (.int .i64 (a + w)), .lit (.int .i64 0)] else .tup [.lit (.int q 0), .lit (.int .i64 0), .lit (.int .i64 (needE n a w))]) =
      .tup [.lit (.int q ((nR n bs a w k : Nat) : Int)), .lit (.int .i64 (pR n a w)), .lit (.int .i64 (needE n a w))] := by
  unfold nR pR
  split
  · rename_i h; rw [h]
  · rfl
theorem ite_u {n k : Nat} {bs : List UInt8} {a w : Int} :
    (if needE n a w = 0 then PV.tup [ul (rdV bs a.toNat k), .lit (.int .i64 (a + w)), .lit (.int .i64 0)] else .tup [ul 0, .lit (.int .i64 0), .lit (.int .i64 (needE n a w))]) =
      .tup [ul (nR n bs a w k), .lit (.int .i64 (pR n a w)), .lit (.int .i64 (needE n a w))] := by
  unfold nR pR
  split
  · rename_i h; rw [h]
  · rfl
def hR (b : List UInt8) (a : Int) : List UInt8 := if needE b.length a 32 = 0 then (b.drop a.toNat).take 32 else List.replicate 32 0
theorem hR_pos {b : List UInt8} {a : Int} (h : needE b.length a 32 = 0) : hR b a = (b.drop a.toNat).take 32 := by rw [hR, if_pos h]
theorem hR_neg {b : List UInt8} {a : Int} (h : ¬ needE b.length a 32 = 0) : hR b a = List.replicate 32 0 := by rw [hR, if_neg h]
theorem pR_pos {n : Nat} {a w : Int} (h : needE n a w = 0) : pR n a w = a + w := by rw [pR, if_pos h]
theorem pR_neg {n : Nat} {a w : Int} (h : ¬ needE n a w = 0) : pR n a w = 0 := by rw [pR, if_neg h]
theorem len_hR (b : List UInt8) (a : Int) : (hR b a).length = 32 := by
  by_cases h : needE b.length a 32 = 0
  · have := need_ok h
    rw [hR_pos h, List.length_take, List.length_drop]
    omega
  · rw [hR_neg h, List.length_replicate]
def sHashT : List PV → Prop × PV
  | [.ro n cs, .lit (.int .i64 a)] => (isB n cs ∧ n ≤ 9223372036854775807 ∧ -9223372036854775808 ≤ a ∧ a ≤ 9223372036854775807,
      .tup [.agg ((hR (bytesOf cs) a).map bv), .lit (.int .i64 (pR n a 32)), .lit (.int .i64 (needE n a 32))])
  | _ => (False, .any)
theorem eql_hR {P : Program} {L : LH} {t e s1 b1 b2 : Nat} {z1 z2 : Value} (b : List UInt8) (a : Int) (ht : tyOf P t = some ⟨.array 32 e, s1, b1, z1⟩) (he : tyOf P e = some ⟨.int .u8, 1, b2, z2⟩) :
    binF P .eql t (.agg ((hR b a).map bv)) (.agg ((hR b a).map bv)) L = ⟨True, .lit (.bool true), L⟩ := eql_bs _ (len_hR b a) ht he
end Go.Ab
namespace Go.Ab
open Go Go.RowKit
theorem build_none {P : Program} {L : LH} {t e n s1 b1 : Nat} {z : Value} {E : TI} {row : List PV} (hT : tyOf P t = some ⟨.array n e, s1, b1, z⟩) (hE : tyOf P e = some E) (hz : z.cells.toList.map PV.lit = row) :
    buildF P t [] L = ⟨True, .agg row, L⟩ := by
  subst hz
  simp [buildF, hT, hE, fillB, zeroCells]
end Go.Ab
namespace Go.Ab
open Go Go.RowKit
theorem ndl0 {n : Nat} {a w : Int} (h : a < 0) : PV.lit (.int .i64 5) = .lit (.int .i64 (needE n a w)) := by rw [nd0 h]
theorem ndl1 {n : Nat} {a w : Int} (h : ¬ a < 0) (h2 : (n : Int) < a) : PV.lit (.int .i64 5) = .lit (.int .i64 (needE n a w)) := by rw [nd1 h h2]
theorem ndl2 {n : Nat} {a w : Int} (h : ¬ a < 0) (h2 : ¬ (n : Int) < a) (h3 : (n : Int) - a < w) : PV.lit (.int .i64 1) = .lit (.int .i64 (needE n a w)) := by rw [nd2 h h2 h3]
theorem ndl3 {n : Nat} {a w : Int} (h : ¬ a < 0) (h2 : ¬ (n : Int) < a) (h3 : ¬ (n : Int) - a < w) : PV.lit (.int .i64 0) = .lit (.int .i64 (needE n a w)) := by rw [nd3 h h2 h3]
theorem endl_e {n : Nat} {a : Int} (h : ¬ needE n a 0 = 0) : PV.lit (.int .i64 (needE n a 0)) = .lit (.int .i64 (endE n a)) := by
  rw [end_need] at h ⊢
  unfold endE
  split
  · rfl
  · split
    · rfl
    · rename_i h1 h2
      rw [if_neg h1, if_neg h2] at h
      exact absurd rfl h
theorem endl_5 {n : Nat} {a : Int} (h : a < 0 ∨ (n : Int) < a) : PV.lit (.int .i64 5) = .lit (.int .i64 (endE n a)) := by
  unfold endE
  split
  · rfl
  · rw [if_pos (by omega)]
theorem endl_2 {n : Nat} {a : Int} (h : 0 ≤ a ∧ a ≤ n) (h2 : a < n) : PV.lit (.int .i64 2) = .lit (.int .i64 (endE n a)) := by
  unfold endE
  rw [if_neg (by omega), if_neg (by omega), if_pos h2]
theorem endl_0 {n : Nat} {a : Int} (h : 0 ≤ a ∧ a ≤ n) (h2 : ¬ a < n) : PV.lit (.int .i64 0) = .lit (.int .i64 (endE n a)) := by
  unfold endE
  rw [if_neg (by omega), if_neg (by omega), if_neg h2]
theorem need_in {n : Nat} {a : Int} (h : needE n a 0 = 0) : 0 ≤ a ∧ a ≤ n := by
  have := need_ok h
  omega
theorem num_e {n : Nat} {bs : List UInt8} {a w e : Int} {k : Nat} (h : PV.lit (.int .i64 e) = .lit (.int .i64 (needE n a w))) (h0 : ¬ e = 0) :
    PV.tup [ul 0, .lit (.int .i64 0), .lit (.int .i64 e)] = (if needE n a w = 0 then PV.tup [ul (rdV bs a.toNat k), .lit (.int .i64 (a + w)), .lit (.int .i64 0)] else .tup [ul 0, .lit (.int .i64 0), .lit (.int .i64 (needE n a w))]) := by
  have e2 : e = needE n a w := by simpa using h
  subst e2
  rw [if_neg h0]
end Go.Ab
namespace Go.Ab
open Go Go.RowKit
theorem hash_e {n : Nat} {a e : Int} {x : PV} (_hz : ¬ needE n a 32 = 0) (h : PV.lit (.int .i64 e) = .lit (.int .i64 (needE n a 32))) : PV.tup [x, .lit (.int .i64 0), .lit (.int .i64 e)] = .tup [x, .lit (.int .i64 0), .lit (.int .i64 (needE n a 32))] := by rw [h]
end Go.Ab
namespace Go.Ab
open Go Go.RowKit
set_option linter.unusedVariables false
set_option linter.unusedSimpArgs false
structure B3 where
  bs : List UInt8
  at_ : Int
  e : Int
def tb (r : B3) : PV := .tup [newB r.bs, .lit (.int .i64 r.at_), .lit (.int .i64 r.e)]
def byR (b : List UInt8) (a most : Int) : B3 :=
  if most < 0 then ⟨[], 0, 5⟩
  else if (sizeR b a most.toNat).e = 0 then
    if needE b.length (sizeR b a most.toNat).at_ (sizeR b a most.toNat).v = 0 then ⟨(b.drop (sizeR b a most.toNat).at_.toNat).take (sizeR b a most.toNat).v, (sizeR b a most.toNat).at_ + (sizeR b a most.toNat).v, 0⟩
    else ⟨[], 0, needE b.length (sizeR b a most.toNat).at_ (sizeR b a most.toNat).v⟩
  else ⟨[], 0, (sizeR b a most.toNat).e⟩
theorem tp_mk (v : Nat) (p e : Int) : tp ⟨v, p, e⟩ = .tup [ul v, .lit (.int .i64 p), .lit (.int .i64 e)] := rfl
theorem byR_0 {b : List UInt8} {a most : Int} (h : most < 0) : byR b a most = ⟨[], 0, 5⟩ := by rw [byR, if_pos h]
theorem byR_e {b : List UInt8} {a p e : Int} {v m : Nat} (hr : sizeR b a m = ⟨v, p, e⟩) (h : ¬ e = 0) : byR b a m = ⟨[], 0, e⟩ := by
  rw [byR, if_neg (by omega), Int.toNat_natCast, hr, if_neg h]
theorem byR_n {b : List UInt8} {a p : Int} {v m : Nat} (hr : sizeR b a m = ⟨v, p, 0⟩) (h : ¬ needE b.length p v = 0) : byR b a m = ⟨[], 0, needE b.length p v⟩ := by
  rw [byR, if_neg (by omega), Int.toNat_natCast, hr, if_pos rfl, if_neg h]
theorem byR_k {b : List UInt8} {a p : Int} {v m : Nat} (hr : sizeR b a m = ⟨v, p, 0⟩) (h : needE b.length p v = 0) : byR b a m = ⟨(b.drop p.toNat).take v, p + v, 0⟩ := by
  rw [byR, if_neg (by omega), Int.toNat_natCast, hr, if_pos rfl, if_pos h]
theorem wideR_at {b : List UInt8} {a : Int} {w least : Nat} (h : (wideR b a w least).e = 0) : 0 ≤ (wideR b a w least).at_ ∧ (wideR b a w least).at_ ≤ b.length ∧ needE b.length a w = 0 := by
  by_cases hz : needE b.length a w = 0
  · have := need_ok hz
    by_cases hl : rdV b a.toNat w < least
    · rw [wideR_s hz hl] at h
      cases h
    · rw [wideR_o hz hl]
      exact ⟨by show 0 ≤ a + w; omega, by show a + w ≤ b.length; omega, hz⟩
  · rw [wideR_n hz] at h
    exact absurd h hz
theorem anyR_at {b : List UInt8} {a : Int} (h : (anyR b a).e = 0) : 0 ≤ (anyR b a).at_ ∧ (anyR b a).at_ ≤ b.length := by
  have h1 := rd1_lt b a.toNat
  by_cases hz : needE b.length a 1 = 0
  · have hok := need_ok hz
    rcases (show rdV b a.toNat 1 = 253 ∨ rdV b a.toNat 1 = 254 ∨ rdV b a.toNat 1 = 255 ∨ rdV b a.toNat 1 < 253 by omega) with c | c | c | c
    · rw [anyR_16 hz c] at h ⊢; exact ⟨(wideR_at h).1, (wideR_at h).2.1⟩
    · rw [anyR_32 hz c] at h ⊢; exact ⟨(wideR_at h).1, (wideR_at h).2.1⟩
    · rw [anyR_64 hz c] at h ⊢; exact ⟨(wideR_at h).1, (wideR_at h).2.1⟩
    · rw [anyR_8 hz c]; exact ⟨by show 0 ≤ a + 1; omega, by show a + 1 ≤ b.length; omega⟩
  · rw [anyR_n hz] at h
    exact absurd h hz
theorem sizeR_at {b : List UInt8} {a p : Int} {v m : Nat} (h : sizeR b a m = ⟨v, p, 0⟩) : 0 ≤ p ∧ p ≤ b.length ∧ v ≤ m := by
  by_cases he : (anyR b a).e = 0
  · have := anyR_at he
    by_cases hm : m < (anyR b a).v
    · rw [sizeR_m2 he hm] at h; cases h
    · rw [sizeR_k2 he hm] at h
      rw [h] at this hm
      simp only at this hm
      omega
  · rw [sizeR_e2 he] at h
    have := congrArg R3.e h
    exact absurd this he
def sBytesR : List PV → Prop × PV
  | [.ro n cs, .lit (.int .i64 a), .lit (.int .i64 most)] => (isB n cs ∧ n ≤ 140737488355328 ∧ -9223372036854775808 ≤ a ∧ a ≤ 9223372036854775807 ∧ most ≤ 9223372036854775807, tb (byR (bytesOf cs) a most))
  | _ => (False, .any)
theorem zip1r {n : Nat} {a : List UInt8} (h1 : n = a.length) : [(0, PV.ro n (a.map bv))] = (List.range' 0 1).zip ([a].map rowB) := by subst h1; rfl
section
variable {P : Program} {Γ : Con} {mode : Mode} {all r : List Oper} {o : Oper} {k : Env → LH → Prop} {env : Env} {L : LH} {d : Nat}
theorem conv_ul63 {s d s1 b1 s2 b2 n : Nat} {z1 z2 : Value} (h1 : tyOf P s = some ⟨.int .u64, s1, b1, z1⟩) (h2 : tyOf P d = some ⟨.int .i64, s2, b2, z2⟩) (h : n < 9223372036854775808) : convF P s d (ul n) L = ⟨True, .lit (.int .i64 (n : Int)), L⟩ := by
  unfold ul
  rw [conv_int h1 h2, Nat.mod_eq_of_lt (show n < 18446744073709551616 by omega), wrap_i64 (by omega) (by omega)]
theorem kOps_callt {g : FuncId} {args : Array Operand} {tys : Array TypeId} {S : List PV → Prop × PV} {ps qs cs rs : List PV} {pre : Prop} {n sz q : Nat} (hk : o.op = .call ⟨.value (.func g), args, tys⟩) (hg : o.guard = none) (hd : o.dst = some d) (hm : dm mode o.op = false) (hΓ : Γ.tab g = .pure S) (hx : findL env args.toList = some ps) (hb : BorL L ps qs) (hv : S qs = (pre, .tup (.new n sz cs :: rs))) (hq : L.length = q) (hf : closedL ps = true ∨ (flatL cs && flatL rs) = true) (hp : pre)
    (h : vOps P Γ mode all r ((d, .tup (.own q 0 n sz :: rs)) :: env) (L ++ [.cells cs]) k) : vOps P Γ mode all (o :: r) env L k := by
  refine vOps_call (b := false) (pre := True) (val := .tup (.own q 0 n sz :: rs)) (L' := L ++ [.cells cs]) hk hg hd hm ?_ trivial h
  rw [findL_eval hx, pure_call hΓ hb hv hp (by simpa only [flat, flatL] using hf), adopt_tnew, fresh_own, hq]
end
theorem fin3_new {P : Program} {L : LH} {env : Env} {fn : Func} {t t2 t3 id n : Nat} {q s : PV} {bs cs : List UInt8} {e : Exit} (he : e = .normal ∨ e = .ret) (hr : fn.results.toList = [.tmp t, .tmp t2, .tmp t3]) (hl : find env t = some (.own id 0 n 1)) (hq : find env t2 = some q) (hs : find env t3 = some s) (hL : L[id]? = some (.cells (bs.map bv))) (hn : n = bs.length) (hc : closedL [q, s] = true) (h : bs = cs) : Fin P fn (.tup [newB cs, q, s]) e env L := by
  subst h
  exact fin_3bytes (pre := True) (pre' := True) (pre'' := True) he hr (by rw [resOne_tmp, find_lookup hl]) (by rw [resOne_tmp, find_lookup hq]) (by rw [resOne_tmp, find_lookup hs]) trivial trivial trivial hL (Nat.zero_le _) hn (by rw [List.drop_zero, hn, take_bytes]) hc
theorem fin3_nil {P : Program} {L : LH} {env : Env} {fn : Func} {t t2 t3 : Nat} {q s : PV} {e : Exit} (he : e = .normal ∨ e = .ret) (hr : fn.results.toList = [.tmp t, .tmp t2, .tmp t3]) (hl : find env t = some (.lit (.slice none 0 0))) (hq : find env t2 = some q) (hs : find env t3 = some s) (hc : closedL [q, s] = true) : Fin P fn (.tup [newB [], q, s]) e env L :=
  fin_3nil (sz := 1) (pre := True) (pre' := True) (pre'' := True) he hr (by rw [resOne_tmp, find_lookup hl]) (by rw [resOne_tmp, find_lookup hq]) (by rw [resOne_tmp, find_lookup hs]) trivial trivial trivial hc
end Go.Ab
namespace Go.Ab
open Go Go.RowKit
set_option linter.unusedVariables false
theorem pR_in {n : Nat} {a w : Int} (hw : 0 ≤ w) : 0 ≤ pR n a w ∧ pR n a w ≤ n := by
  by_cases h : needE n a w = 0
  · have := need_ok h
    rw [pR_pos h]
    omega
  · rw [pR_neg h]
    omega
theorem nR_lt {n : Nat} {bs : List UInt8} {a w : Int} {k : Nat} (hk : k ≤ 8) : nR n bs a w k < 18446744073709551616 := by
  have := @rd_lt bs a.toNat k 8 hk
  unfold nR
  split
  · simpa using this
  · decide
theorem nR_pos {n : Nat} {bs : List UInt8} {a w : Int} {k : Nat} (h : needE n a w = 0) : nR n bs a w k = rdV bs a.toNat k := by rw [nR, if_pos h]
theorem wl_n {b : List UInt8} {a z : Int} {w least : Nat} (hz : z = w) (h : ¬ needE b.length a z = 0) : PV.tup [ul 0, .lit (.int .i64 0), .lit (.int .i64 (needE b.length a z))] = tp (wideR b a w least) := by
  subst hz; exact tp_eq (wideR_n h)
theorem wl_s {b : List UInt8} {a z : Int} {w least : Nat} (hz : z = w) (h : needE b.length a z = 0) (h2 : nR b.length b a z w < least) : PV.tup [ul 0, .lit (.int .i64 0), .lit (.int .i64 3)] = tp (wideR b a w least) := by
  subst hz; exact tp_eq (wideR_s h (by rwa [nR_pos h] at h2))
theorem wl_o {b : List UInt8} {a z : Int} {w least : Nat} (hz : z = w) (h : needE b.length a z = 0) (h2 : ¬ nR b.length b a z w < least) : PV.tup [ul (nR b.length b a z w), .lit (.int .i64 (pR b.length a z)), .lit (.int .i64 0)] = tp (wideR b a w least) := by
  subst hz
  rw [pR_pos h]
  rw [nR_pos h] at h2 ⊢
  exact tp_eq (wideR_o h h2)
theorem al_n {b : List UInt8} {a : Int} (h : ¬ needE b.length a 1 = 0) : PV.tup [ul 0, .lit (.int .i64 0), .lit (.int .i64 (needE b.length a 1))] = tp (anyR b a) := tp_eq (anyR_n h)
theorem al_16 {b : List UInt8} {a : Int} (h : needE b.length a 1 = 0) (h2 : nR b.length b a 1 1 = 253) : tp (wideR b (pR b.length a 1) 2 253) = tp (anyR b a) := by
  rw [nR_pos h] at h2
  rw [pR_pos h, anyR_16 h h2]
theorem al_32 {b : List UInt8} {a : Int} (h : needE b.length a 1 = 0) (h2 : nR b.length b a 1 1 = 254) : tp (wideR b (pR b.length a 1) 4 65536) = tp (anyR b a) := by
  rw [nR_pos h] at h2
  rw [pR_pos h, anyR_32 h h2]
theorem al_64 {b : List UInt8} {a : Int} (h : needE b.length a 1 = 0) (h2 : nR b.length b a 1 1 = 255) : tp (wideR b (pR b.length a 1) 8 4294967296) = tp (anyR b a) := by
  rw [nR_pos h] at h2
  rw [pR_pos h, anyR_64 h h2]
theorem al_8 {b : List UInt8} {a : Int} (h : needE b.length a 1 = 0) (h2 : ¬ nR b.length b a 1 1 = 253) (h3 : ¬ nR b.length b a 1 1 = 254) (h4 : ¬ nR b.length b a 1 1 = 255) : PV.tup [ul (nR b.length b a 1 1), .lit (.int .i64 (pR b.length a 1)), .lit (.int .i64 0)] = tp (anyR b a) := by
  have := rd1_lt b a.toNat
  rw [nR_pos h] at h2 h3 h4 ⊢
  rw [pR_pos h]
  exact tp_eq (anyR_8 h (by omega))
end Go.Ab
namespace Go.Ab
open Go Go.RowKit
set_option linter.unusedVariables false
set_option linter.unusedSimpArgs false
theorem rdV_mid (X L Y : List UInt8) : rdV (X ++ L ++ Y) X.length L.length = leV L := by
  unfold rdV
  rw [List.append_assoc, List.drop_left, List.take_left]
theorem rdV_le (X Y : List UInt8) (n w : Nat) : rdV (X ++ leB n w ++ Y) X.length w = n % 256 ^ w := by
  have := rdV_mid X (leB n w) Y
  rwa [len_leB, leV_leB] at this
theorem rdV_one (X Y : List UInt8) (x : UInt8) : rdV (X ++ [x] ++ Y) X.length 1 = x.toNat := by
  have := rdV_mid X [x] Y
  simpa [leV] using this
theorem nd_ok {n : Nat} {a w : Int} (h0 : 0 ≤ a) (h : a + w ≤ n) (hw : 0 ≤ w) : needE n a w = 0 := nd3 (by omega) (by omega) (by omega)
theorem wide_back {X T Y : List UInt8} {w least n : Nat} {a : Int} (ha : a = (X.length : Int)) (hT : T = leB n w) (hn : n < 256 ^ w) (hl : least ≤ n) : wideR (X ++ T ++ Y) a w least = ⟨n, a + w, 0⟩ := by
  subst hT ha
  have hr : rdV (X ++ leB n w ++ Y) (X.length : Int).toNat w = n := by
    rw [Int.toNat_natCast, rdV_le, Nat.mod_eq_of_lt hn]
  rw [wideR_o (nd_ok (by omega) (by simp only [List.length_append, len_leB]; omega) (by omega)) (by rw [hr]; omega), hr]
theorem any_back {X Y : List UInt8} {n : Nat} (hn : n < 18446744073709551616) : anyR (X ++ szB n ++ Y) (X.length : Int) = ⟨n, (X.length : Int) + (szB n).length, 0⟩ := by
  have e1 : ∀ (x : UInt8) (T : List UInt8), X ++ (x :: T) ++ Y = X ++ [x] ++ (T ++ Y) := fun x T => by simp
  have e2 : ∀ (x : UInt8) (T : List UInt8), X ++ (x :: T) ++ Y = (X ++ [x]) ++ T ++ Y := fun x T => by simp
  have hz : ∀ (x : UInt8) (T : List UInt8), needE (X ++ (x :: T) ++ Y).length (X.length : Int) 1 = 0 := fun x T => nd_ok (by omega) (by simp only [List.length_append, List.length_cons]; omega) (by omega)
  have hr : ∀ (x : UInt8) (T : List UInt8), rdV (X ++ (x :: T) ++ Y) (X.length : Int).toNat 1 = x.toNat := fun x T => by rw [Int.toNat_natCast, e1, rdV_one]
  have hl : ∀ x : UInt8, (X.length : Int) + 1 = ((X ++ [x]).length : Int) := fun x => by simp
  by_cases c1 : n < 253
  · have h1 : szB n = [UInt8.ofNat n] := by
      rw [szB_1 c1, ← leB_succ, leB_zero, ← leF_def]
      simp
    have hx : (UInt8.ofNat n).toNat = n := by rw [UInt8.toNat_ofNat']; omega
    rw [h1, anyR_8 (hz _ _) (by rw [hr, hx]; exact c1), hr, hx]
    rfl
  · by_cases c2 : n < 65536
    · rw [szB_2 c1 c2, anyR_16 (hz _ _) (hr _ _), e2, wide_back (hl 253) rfl (by omega) (by omega)]
      simp only [List.length_cons, len_leB] <;> (congr 1 <;> omega)
    · by_cases c3 : n < 4294967296
      · rw [szB_3 c1 c2 c3, anyR_32 (hz _ _) (hr _ _), e2, wide_back (hl 254) rfl (by omega) (by omega)]
        simp only [List.length_cons, len_leB] <;> (congr 1 <;> omega)
      · rw [szB_4 c1 c2 c3, anyR_64 (hz _ _) (hr _ _), e2, wide_back (hl 255) rfl (by omega) (by omega)]
        simp only [List.length_cons, len_leB] <;> (congr 1 <;> omega)
theorem size_back {X Y : List UInt8} {n most : Nat} (hn : n < 18446744073709551616) (hm : n ≤ most) : sizeR (X ++ szB n ++ Y) (X.length : Int) most = ⟨n, (X.length : Int) + (szB n).length, 0⟩ :=
  sizeR_k (any_back hn) (by omega)
theorem bytes_back {X Y s : List UInt8} {most : Nat} (hn : s.length < 18446744073709551616) (hm : s.length ≤ most) : byR (X ++ szB s.length ++ (s ++ Y)) (X.length : Int) most = ⟨s, (X.length : Int) + (szB s.length).length + s.length, 0⟩ := by
  rw [byR_k (size_back hn hm) (nd_ok (by omega) (by simp only [List.length_append]; omega) (by omega))]
  have e : ((X.length : Int) + ((szB s.length).length : Int)).toNat = (X ++ szB s.length).length := by rw [List.length_append]; omega
  rw [e, List.drop_left, List.take_left]
theorem eql_uw {P : Program} {L : LH} {t : Nat} (a b : W) : binF P .eql t (uw a) (uw b) L = ⟨True, .lit (.bool (decide (a.toNat = b.toNat))), L⟩ := by
  simp only [uw, binF_eql, Int.ofNat_inj]
section
variable {b s h A : List UInt8} {v : Nat}
abbrev IsAll (b s h A : List UInt8) (v : Nat) : Prop := A = b ++ leB (v % 65536) 2 ++ leB (v % 4294967296) 4 ++ leB v 8 ++ szB v ++ szB s.length ++ s ++ h
theorem bk_len (hA : IsAll b s h A v) (hh : h.length = 32) : A.length = b.length + 2 + 4 + 8 + (szB v).length + (szB s.length).length + s.length + 32 := by
  subst hA
  simp only [List.length_append, len_leB, hh]
theorem bk_16 (hA : IsAll b s h A v) : rdV A b.length 2 = v % 65536 := by
  subst hA
  have := rdV_le b (leB (v % 4294967296) 4 ++ leB v 8 ++ szB v ++ szB s.length ++ s ++ h) (v % 65536) 2
  simp only [List.append_assoc] at this ⊢
  rw [this]
  omega
theorem bk_32 (hA : IsAll b s h A v) : rdV A ((b.length : Int) + 2).toNat 4 = v % 4294967296 := by
  subst hA
  have := rdV_le (b ++ leB (v % 65536) 2) (leB v 8 ++ szB v ++ szB s.length ++ s ++ h) (v % 4294967296) 4
  have e : ((b.length : Int) + 2).toNat = (b ++ leB (v % 65536) 2).length := by simp only [List.length_append, len_leB]; omega
  rw [e]
  simp only [List.append_assoc] at this ⊢
  rw [this]
  omega
theorem bk_64 (hA : IsAll b s h A v) (hv : v < 18446744073709551616) : rdV A ((b.length : Int) + 2 + 4).toNat 8 = v := by
  subst hA
  have := rdV_le (b ++ leB (v % 65536) 2 ++ leB (v % 4294967296) 4) (szB v ++ szB s.length ++ s ++ h) v 8
  have e : ((b.length : Int) + 2 + 4).toNat = (b ++ leB (v % 65536) 2 ++ leB (v % 4294967296) 4).length := by simp only [List.length_append, len_leB]; omega
  rw [e]
  simp only [List.append_assoc] at this ⊢
  rw [this]
  omega
theorem bk_size (hA : IsAll b s h A v) (hv : v < 18446744073709551616) : sizeR A ((b.length : Int) + 2 + 4 + 8) 18446744073709551615 = ⟨v, (b.length : Int) + 2 + 4 + 8 + (szB v).length, 0⟩ := by
  subst hA
  have := size_back (X := b ++ leB (v % 65536) 2 ++ leB (v % 4294967296) 4 ++ leB v 8) (Y := szB s.length ++ s ++ h) (most := 18446744073709551615) hv (by omega)
  have e : (((b ++ leB (v % 65536) 2 ++ leB (v % 4294967296) 4 ++ leB v 8).length : Nat) : Int) = (b.length : Int) + 2 + 4 + 8 := by simp only [List.length_append, len_leB]; omega
  rw [e] at this
  simp only [List.append_assoc] at this ⊢
  exact this
theorem bk_bytes (hA : IsAll b s h A v) (hs : s.length < 18446744073709551616) : byR A ((b.length : Int) + 2 + 4 + 8 + (szB v).length) (s.length : Int) = ⟨s, (b.length : Int) + 2 + 4 + 8 + (szB v).length + (szB s.length).length + s.length, 0⟩ := by
  subst hA
  have := bytes_back (X := b ++ leB (v % 65536) 2 ++ leB (v % 4294967296) 4 ++ leB v 8 ++ szB v) (Y := h) (s := s) (most := s.length) hs (Nat.le_refl _)
  have e : (((b ++ leB (v % 65536) 2 ++ leB (v % 4294967296) 4 ++ leB v 8 ++ szB v).length : Nat) : Int) = (b.length : Int) + 2 + 4 + 8 + (szB v).length := by simp only [List.length_append, len_leB]; omega
  rw [e] at this
  simp only [List.append_assoc] at this ⊢
  exact this
theorem bk_hash (hA : IsAll b s h A v) (hh : h.length = 32) : hR A ((b.length : Int) + 2 + 4 + 8 + (szB v).length + (szB s.length).length + s.length) = h := by
  have hl := bk_len hA hh
  rw [hR_pos (nd_ok (by omega) (by omega) (by omega))]
  subst hA
  have e : ((b.length : Int) + 2 + 4 + 8 + (szB v).length + (szB s.length).length + s.length).toNat = (b ++ leB (v % 65536) 2 ++ leB (v % 4294967296) 4 ++ leB v 8 ++ szB v ++ szB s.length ++ s).length := by simp only [List.length_append, len_leB]; omega
  rw [e, List.drop_left, List.take_of_length_le (by omega)]
theorem bk_pre (hA : IsAll b s h A v) : A.take b.length = b := by
  subst hA
  simp only [List.append_assoc, List.take_left]
end
end Go.Ab
namespace Go.Ab
open Go Go.RowKit
section
variable {P : Program} {L : LH}
theorem add_bv1 {t : TypeId} {a : UInt8} : binF P .add t (bv a) (.lit (.int .u8 1)) L = ⟨True, bv (a + 1), L⟩ := by
  have h := a.toNat_lt
  simp only [bv, binF_add, OR.mk.injEq, PV.lit.injEq, Value.int.injEq, true_and, and_true, UInt8.toNat_add]
  simp [IntKind.wrap, IntKind.bits, IntKind.signed]
end
theorem tdiv2 (m : Nat) : (m : Int).tdiv 2 = ((m / 2 : Nat) : Int) := (Int.ofNat_tdiv m 2).symm
theorem fresh_back (b : List UInt8) (h : b.length < 18446744073709551616) : byR (szB b.length ++ b) 0 (b.length : Int) = ⟨b, ((szB b.length).length : Int) + b.length, 0⟩ := by
  have := bytes_back (X := []) (Y := []) (s := b) h (Nat.le_refl _)
  simpa using this
end Go.Ab
