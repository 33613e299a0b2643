import Derived.Test.YthjfiaomfngajaaDoorMF
namespace Go.Ab
open Go Go.RowKit
set_option linter.unusedVariables false
set_option linter.unusedSimpArgs false
set_option linter.constructorNameAsVariable false
variable {P : Program} {Γ : Con} {L L' : LH} {env : Env}
structure Byt (L : LH) (x : PV) (n : Nat) (bs : List UInt8) : Prop where
  ok : (slc L x).1
  num : (slc L x).2.1 = n
  row : (slc L x).2.2 = bs.map bv
  len : n = bs.length
theorem byt_nil : Byt L (.lit (.slice none 0 0)) 0 [] := ⟨trivial, rfl, rfl, rfl⟩
theorem byt_ro {n : Nat} {bs : List UInt8} (h : n = bs.length) : Byt L (.ro n (bs.map bv)) n bs := ⟨trivial, rfl, rfl, h⟩
theorem byt_part {id off n : Nat} {bs cs : List UInt8} (hL : L[id]? = some (.cells (bs.map bv))) (h : off + n ≤ bs.length) (hc : (bs.drop off).take n = cs) : Byt L (.own id off n 1) n cs := by
  subst hc
  refine ⟨?_, ?_, ?_, ?_⟩
  · simp only [slc, hL, List.length_map]; omega
  · simp only [slc, hL]
  · simp only [slc, hL, Nat.mul_one, List.map_take, List.map_drop]
  · simp; omega
theorem byt_own {id n : Nat} {bs : List UInt8} (hL : L[id]? = some (.cells (bs.map bv))) (h : n = bs.length) : Byt L (.own id 0 n 1) n bs :=
  byt_part hL (by omega) (by rw [List.drop_zero, h, List.take_length])
theorem Byt.shape {x : PV} {n : Nat} {bs : List UInt8} (h : Byt L x n bs) : (x = .lit (.slice none 0 0) ∧ n = 0) ∨ (∃ cs, x = .ro n cs) ∨ ∃ id off sz cs, x = .own id off n sz ∧ L[id]? = some (.cells cs) := by
  have h1 := h.ok
  have h2 := h.num
  unfold slc at h1 h2
  split at h1
  · exact .inl ⟨rfl, h2.symm⟩
  · simp only at h2; subst h2; exact .inr (.inl ⟨_, rfl⟩)
  · rename_i id off m sz
    simp only at h1 h2
    split at h1
    · rename_i cs hL
      simp only [hL] at h2
      subst h2
      exact .inr (.inr ⟨id, off, sz, cs, rfl, hL⟩)
    · exact h1.elim
  · exact h1.elim
def AppTo (L : LH) (s : PV) (bs : List UInt8) : Prop := (s = .lit (.slice none 0 0) ∧ bs = []) ∨ ∃ id n, s = .own id 0 n 1 ∧ n = bs.length ∧ L[id]? = some (.cells (bs.map bv))
theorem app_nil : AppTo L (.lit (.slice none 0 0)) [] := .inl ⟨rfl, rfl⟩
theorem app_own {id n : Nat} {bs : List UInt8} (hL : L[id]? = some (.cells (bs.map bv))) (h : n = bs.length) : AppTo L (.own id 0 n 1) bs := .inr ⟨id, n, rfl, h, hL⟩
def Bnd (env : Env) (o : Option Operand) (d z : Int) : Prop := (o = none ∧ z = d) ∨ ∃ x k, o = some x ∧ findO env x = some (.lit (.int k z))
theorem bnd_none {d : Int} : Bnd env none d d := .inl ⟨rfl, rfl⟩
theorem bnd_some {x : Operand} {k : IntKind} {d z : Int} (h : findO env x = some (.lit (.int k z))) : Bnd env (some x) d z := .inr ⟨x, k, rfl, h⟩
theorem Bnd.ints {o : Option Operand} {d z : Int} (h : Bnd env o d z) : ints? (o.map (evalIn env)) d = some z := by
  rcases h with ⟨rfl, rfl⟩ | ⟨x, k, rfl, h⟩
  · rfl
  · simp only [Option.map_some, findO_eval h, ints?]
theorem fill_one : ∀ (ps done zs : List PV), (∀ p ∈ ps, p.cells = [p]) → zs.length = ps.length → fillA 1 (fun i => some (i * 1)) (done ++ zs) ((List.range' done.length ps.length).zip ps) = some (done ++ ps)
  | [], done, zs, _, h => by
    have : zs = [] := List.length_eq_zero_iff.1 h
    subst this; rfl
  | a :: l, done, z :: zs, hc, h => by
    have ih := fill_one l (done ++ [a]) zs (fun p hp => hc p (by simp [hp])) (by simpa using h)
    rw [List.length_append, List.length_singleton] at ih
    show fillA _ _ _ ((done.length, a) :: (List.range' (done.length + 1) l.length).zip l) = _
    unfold fillA
    simp only [hc a (by simp), List.length_cons, List.length_nil, Nat.mul_one, List.length_append]
    rw [if_pos ⟨trivial, by omega⟩]
    have e : splice (done ++ z :: zs) done.length [a] = done ++ [a] ++ zs := by
      show (done ++ z :: zs).set done.length a = _
      rw [List.set_append_right _ _ (Nat.le_refl _), Nat.sub_self, List.set_cons_zero, List.append_assoc]
      rfl
    rw [e]
    simp only [Nat.mul_one] at ih
    rw [ih, List.append_assoc]
    rfl
theorem zip_all {f : PV → Bool} : ∀ (n k : Nat) (l : List PV), (∀ p ∈ l, f p = true) → ((List.range' k n).zip l).all (fun x => f x.2) = true
  | 0, k, l, _ => by simp
  | n + 1, k, [], _ => by simp
  | n + 1, k, a :: l, h => by
    rw [List.range'_succ, List.zip_cons_cons, List.all_cons, zip_all n (k + 1) l (fun p hp => h p (by simp [hp])), h a (by simp)]
    rfl
theorem buildS {draw : Bool} {t e s1 b1 m : Nat} {z1 : Value} {E : TI} {ps : List PV} {parts : List (Nat × PV)} (hT : tyOf P t = some ⟨.slice e, s1, b1, z1⟩) (hE : tyOf P e = some E) (h1 : E.size = 1) (hz : E.zero.cells.toList.length = 1) (hz2 : ∀ v ∈ E.zero.cells.toList, v.oneCell' = true)
    (hp : parts = (List.range' 0 m).zip ps) (hm : ps.length = m) (h0 : 0 < m) (hle : m ≤ 16777216) (hc : ∀ p ∈ ps, p.cells = [p] ∧ PV.one p = true) :
    buildSliceF P draw t m parts L = ⟨True, (fresh draw m 1 ps L).1, (fresh draw m 1 ps L).2⟩ := by
  subst hp
  have hsz : E.zero.cells.size = 1 := by simpa using hz
  have hrep : (rep m E.zero).length = ps.length := by rw [rep_length, hsz, hm, Nat.mul_one]
  have hf := fill_one ps [] (rep m E.zero) (fun p hp => (hc p hp).1) hrep
  simp only [List.nil_append, List.length_nil, hm] at hf
  have ha : ((List.range' 0 m).zip ps).all (fun x => x.2.cells.all PV.one) = true :=
    zip_all (f := fun p => p.cells.all PV.one) m 0 ps (fun p hp => by simp only [(hc p hp).1, List.all_cons, (hc p hp).2, List.all_nil, Bool.and_self])
  have hb : ps.all PV.one = true := List.all_eq_true.2 fun p hp => (hc p hp).2
  simp only [buildSliceF, hT, hE, h1, hf, ha, hb, hsz, OR.mk.injEq, and_true, eq_iff_iff, iff_true]
  exact ⟨by omega, by omega, trivial, hz2⟩
def BorL (L : LH) (ps qs : List PV) : Prop := ps.map (borrow L) = qs ∧ ∀ p ∈ ps, borrowOk L p
theorem bor_nil : BorL L [] [] := ⟨rfl, by simp⟩
theorem bor_closed {p : PV} {ps qs : List PV} (hc : closed p = true) (h : BorL L ps qs) : BorL L (p :: ps) (p :: qs) :=
  ⟨by rw [List.map_cons, h.1, borrow, hc, cond_true], fun q hq => by rcases List.mem_cons.1 hq with rfl | hq; exact .inl hc; exact h.2 q hq⟩
theorem bor_bytes {id off n : Nat} {bs : List UInt8} {ps qs : List PV} (hb : Byt L (.own id off n 1) n bs) (h : BorL L ps qs) : BorL L (.own id off n 1 :: ps) (.ro n (bs.map bv) :: qs) := by
  have e : borrow L (.own id off n 1) = .ro n (bs.map bv) := by
    simp only [borrow, closed, cond_false, dro, hb.row, dro_bv]
  refine ⟨by rw [List.map_cons, h.1, e], fun q hq => ?_⟩
  rcases List.mem_cons.1 hq with rfl | hq
  · refine .inr ⟨?_, ?_⟩
    · simp only [droOk]
      exact ⟨hb.ok, by rw [hb.row]; exact (droOk_bv L 3 bs).2 trivial⟩
    · simp only [dro, hb.row, dro_bv, closed, closedL_bv]
  · exact h.2 q hq
theorem dro_rowB (L : LH) (n : Nat) (b : List UInt8) : dro L n (rowB b) = rowB b := by cases n <;> rfl
theorem droOk_rowB (L : LH) (n : Nat) (b : List UInt8) : droOk L n (rowB b) := by cases n <;> trivial
theorem bor_rows {id n : Nat} {bss : List (List UInt8)} {ps qs : List PV} (hL : L[id]? = some (.cells (bss.map rowB))) (hn : n = bss.length) (h : BorL L ps qs) : BorL L (.own id 0 n 1 :: ps) (.ro n (bss.map rowB) :: qs) := by
  have hs : slc L (.own id 0 n 1) = (0 + n * 1 ≤ (bss.map rowB).length, n, bss.map rowB) := by
    simp only [slc, hL, Prod.mk.injEq, true_and, List.drop_zero, Nat.mul_one]
    exact List.take_of_length_le (by simp [hn])
  have hd : ∀ m, (bss.map rowB).map (dro L m) = bss.map rowB := fun m => by
    rw [List.map_map]; exact List.map_congr_left fun b _ => dro_rowB L m b
  have e : borrow L (.own id 0 n 1) = .ro n (bss.map rowB) := by
    simp only [borrow, closed, cond_false, dro, hs, hd]
  refine ⟨by rw [List.map_cons, h.1, e], fun q hq => ?_⟩
  rcases List.mem_cons.1 hq with rfl | hq
  · refine .inr ⟨?_, ?_⟩
    · simp only [droOk, hs]
      refine ⟨by simp [hn], fun q hq => ?_⟩
      rw [List.mem_map] at hq
      obtain ⟨b, _, rfl⟩ := hq
      exact droOk_rowB L _ b
    · simp only [dro, hs, hd, closed, closedL_rows]
  · exact h.2 q hq
theorem rep_zeros (m : Nat) : rep m (.int .u8 0) = (List.replicate m (0 : UInt8)).map bv := by
  unfold rep
  rw [List.map_replicate]
  show (List.replicate m [PV.lit (.int .u8 0)]).flatten = List.replicate m (PV.lit (.int .u8 0))
  induction m with
  | zero => rfl
  | succ m ih => rw [List.replicate_succ, List.flatten_cons, ih]; rfl
section kinds
variable {mode : Mode} {all r : List Oper} {o : Oper} {k : Env → LH → Prop} {d : Nat}
theorem kOps_len {t e s1 b1 m : Nat} {z1 : Value} {xx : Operand} {x : PV} {cs : List UInt8} (hk : o.op = .call ⟨.builtin .len, #[xx], #[t]⟩) (hg : o.guard = none) (hd : o.dst = some d) (hx : findO env xx = some x) (hT : tyOf P t = some ⟨.slice e, s1, b1, z1⟩) (hX : Byt L x m cs)
    (h : vOps P Γ mode all r ((d, .lit (.int .i64 (m : Int))) :: env) L k) : vOps P Γ mode all (o :: r) env L k := by
  refine vOps_op (pre := True) (val := .lit (.int .i64 (m : Int))) (L' := L) hg hd (by rw [hk]) ?_ trivial h
  rw [hk]
  simp only [opF, findO_eval hx]
  rcases hX.shape with ⟨rfl, rfl⟩ | ⟨cs, rfl⟩ | ⟨id, off, sz, cs, rfl, hL⟩
  · simp only [lenF, hT]
  · simp only [lenF, hT]
  · simp only [lenF, hT, hL]
theorem kOps_lenr {t e s1 b1 m : Nat} {z1 : Value} {xx : Operand} {cs : List PV} (hk : o.op = .call ⟨.builtin .len, #[xx], #[t]⟩) (hg : o.guard = none) (hd : o.dst = some d) (hx : findO env xx = some (.ro m cs)) (hT : tyOf P t = some ⟨.slice e, s1, b1, z1⟩)
    (h : vOps P Γ mode all r ((d, .lit (.int .i64 (m : Int))) :: env) L k) : vOps P Γ mode all (o :: r) env L k := by
  refine vOps_op (pre := True) (val := .lit (.int .i64 (m : Int))) (L' := L) hg hd (by rw [hk]) ?_ trivial h
  rw [hk]
  simp only [opF, findO_eval hx, lenF, hT]
theorem kOps_app {t t2 e e2 s1 b1 s2 b2 m q : Nat} {z1 z2 : Value} {sx xx : Operand} {s x : PV} {bs cs : List UInt8} {L2 : LH} (hk : o.op = .call ⟨.builtin .append, #[sx, xx], #[t, t2]⟩) (hg : o.guard = none) (hd : o.dst = some d) (hm : dm mode o.op = false)
    (hs : findO env sx = some s) (hx : findO env xx = some x) (hT : tyOf P t = some ⟨.slice e, s1, b1, z1⟩) (hT2 : tyOf P t2 = some ⟨.slice e2, s2, b2, z2⟩) (hE : tyOf P e = some ⟨.int .u8, 1, 1, .int .u8 0⟩)
    (hS : AppTo L s bs) (hX : Byt L x m cs) (hq : L.length = q) (hL2 : kill L s ++ [.cells ((bs ++ cs).map bv)] = L2) (hn : bs.length + m ≤ 140737488355328)
    (h : vOps P Γ mode all r ((d, .own q 0 (bs.length + m) 1) :: env) L2 k) : vOps P Γ mode all (o :: r) env L k := by
  refine vOps_op (pre := True) (val := .own q 0 (bs.length + m) 1) (L' := L2) hg hd (by rw [hk]) ?_ trivial h
  rw [hm, hk]
  have hlen : (slc L x).2.2.length = (slc L x).2.1 := by rw [hX.row, hX.num, List.length_map, hX.len]
  have hnews : news P ⟨.int .u8, 1, 1, .int .u8 0⟩ t2 x L = ((slc L x).1 ∧ (slc L x).2.2.length = (slc L x).2.1 * 1, (slc L x).2) := by
    simp only [news, hT2]
  have z1 : (Value.int IntKind.u8 0).cells.size = 1 := rfl
  rcases hS with ⟨rfl, rfl⟩ | ⟨id, n, rfl, rfl, hL⟩
  · simp only [kill, List.nil_append, List.length_nil, Nat.zero_add] at hL2 hn ⊢
    simp only [opF, findO_eval hs, findO_eval hx, appF, hT, hE, hnews, hX.num, hX.row, fresh_own, hq, hL2, z1, List.length_map, ← hX.len, Nat.mul_one, hX.ok, OR.mk.injEq, and_true, true_and, eq_iff_iff, iff_true]
    exact ⟨by omega, by omega, by omega⟩
  · have hsl : (slc L (.own id 0 bs.length 1)) = (0 + bs.length * 1 ≤ (bs.map bv).length, bs.length, bs.map bv) := by
      simp only [slc, hL, Prod.mk.injEq, true_and, List.drop_zero, Nat.mul_one]
      exact List.take_of_length_le (by simp)
    rw [List.map_append] at hL2
    simp only [opF, findO_eval hs, findO_eval hx, appF, hT, hE, hnews, hX.num, hX.row, hsl, hq, hL2, z1, List.length_map, ← hX.len, Nat.mul_one, Nat.zero_add, Nat.le_refl, hX.ok, OR.mk.injEq, and_true, true_and, eq_iff_iff, iff_true]
    exact ⟨by omega, by omega, by omega⟩
theorem kOps_appm {t t2 e s1 b1 s2 b2 q m : Nat} {z1 z2 : Value} {sx xx : Operand} {kk k2 : IntKind} {z : Int} (hk : o.op = .call ⟨.builtin .append, #[sx, xx], #[t, t2]⟩) (hg : o.guard = none) (hd : o.dst = some d) (hm : dm mode o.op = false)
    (hs : findO env sx = some (.lit (.slice none 0 0))) (hx : findO env xx = some (.lit (.int kk z))) (hT : tyOf P t = some ⟨.slice e, s1, b1, z1⟩) (hT2 : tyOf P t2 = some ⟨.int k2, s2, b2, z2⟩) (hE : tyOf P e = some ⟨.int .u8, 1, 1, .int .u8 0⟩)
    (hq : L.length = q) (hz : z = (m : Int)) (hn : m ≤ 140737488355328)
    (h : vOps P Γ mode all r ((d, .own q 0 m 1) :: env) (L ++ [.cells ((List.replicate m (0 : UInt8)).map bv)]) k) : vOps P Γ mode all (o :: r) env L k := by
  subst hz
  refine vOps_op (pre := True) (val := .own q 0 m 1) (L' := L ++ [.cells ((List.replicate m (0 : UInt8)).map bv)]) hg hd (by rw [hk]) ?_ trivial h
  rw [hm, hk]
  have hr := rep_zeros m
  have z1 : (Value.int IntKind.u8 0).cells.size = 1 := rfl
  have z2 : ∀ v ∈ (Value.int IntKind.u8 0).cells.toList, v.oneCell' = true := by decide
  simp only [opF, findO_eval hs, findO_eval hx, appF, hT, hE, news, hT2, fresh_own, hq, z1, Int.toNat_natCast, hr, OR.mk.injEq, and_true, true_and, eq_iff_iff, iff_true]
  exact ⟨by omega, ⟨by omega, by omega, by omega, z2⟩, by omega, by omega⟩
theorem kOps_mk {t e s1 b1 l c n : Nat} {z1 : Value} {x y : Operand} {p p2 : PV} {k1 k2 : IntKind} (hk : o.op = .makeSlice t x y) (hg : o.guard = none) (hd : o.dst = some d) (hm : dm mode o.op = false) (hx : findO env x = some p) (hy : findO env y = some p2) (hT : tyOf P t = some ⟨.slice e, s1, b1, z1⟩) (hE : tyOf P e = some ⟨.int .u8, 1, 1, .int .u8 0⟩)
    (hn : L.length = n) (hp : p = .lit (.int k1 (l : Int))) (hp2 : p2 = .lit (.int k2 (c : Int))) (hl : l ≤ c ∧ c ≤ 281474976710656)
    (h : vOps P Γ mode all r ((d, .own n 0 l 1) :: env) (L ++ [.cells ((List.replicate l (0 : UInt8)).map bv)]) k) : vOps P Γ mode all (o :: r) env L k := by
  subst hp hp2
  refine vOps_op (pre := True) (val := .own n 0 l 1) (L' := L ++ [.cells ((List.replicate l (0 : UInt8)).map bv)]) hg hd (by rw [hk]) ?_ trivial h
  rw [hm, hk]
  have hr := rep_zeros l
  have z1 : (Value.int IntKind.u8 0).cells.size = 1 := rfl
  have z2 : ∀ v ∈ (Value.int IntKind.u8 0).cells.toList, v.oneCell' = true := by decide
  simp only [opF, findO_eval hx, findO_eval hy, makeF, hT, hE, fresh_own, hn, z1, Int.toNat_natCast, hr, OR.mk.injEq, and_true, true_and, eq_iff_iff, iff_true]
  exact ⟨by omega, by omega, by omega, by omega, z2⟩
theorem kOps_slr {t e s1 b1 n l w : Nat} {z1 : Value} {E : TI} {xx : Operand} {lo hi : Option Operand} {bs cs : List UInt8} {y1 y2 : Int} (hk : o.op = .slice t xx lo hi none) (hg : o.guard = none) (hd : o.dst = some d) (hx : findO env xx = some (.ro n (bs.map bv))) (hT : tyOf P t = some ⟨.slice e, s1, b1, z1⟩) (hE : tyOf P e = some E) (h1 : E.size = 1)
    (hlo : Bnd env lo 0 y1) (hhi : Bnd env hi n y2) (hy : n = bs.length ∧ y1 = (l : Int) ∧ y2 = ((l + w : Nat) : Int) ∧ l + w ≤ n) (hc : (bs.drop l).take w = cs)
    (h : vOps P Γ mode all r ((d, .ro w (cs.map bv)) :: env) L k) : vOps P Γ mode all (o :: r) env L k := by
  obtain ⟨hn, rfl, rfl, hle⟩ := hy
  subst hc
  refine vOps_op (pre := True) (val := .ro w (((bs.drop l).take w).map bv)) (L' := L) hg hd (by rw [hk]) ?_ trivial h
  rw [hk]
  have e1 := hlo.ints
  have e2 := hhi.ints
  have e3 : (((l + w : Nat) : Int) - (l : Int)).toNat = w := by omega
  simp only [opF, findO_eval hx, sliceF, hT, hE, Option.map_none, e1, e2, h1, Nat.mul_one, e3, Int.toNat_natCast, List.length_map, List.map_take, List.map_drop, OR.mk.injEq, and_true, eq_iff_iff, iff_true]
  exact ⟨by omega, by omega, by omega, hn.symm⟩
theorem kOps_slo {t e s1 b1 n l w id : Nat} {z1 : Value} {E : TI} {xx : Operand} {lo hi : Option Operand} {cs : List PV} {y1 y2 : Int} (hk : o.op = .slice t xx lo hi none) (hg : o.guard = none) (hd : o.dst = some d) (hx : findO env xx = some (.own id 0 n 1)) (hL : L[id]? = some (.cells cs)) (hT : tyOf P t = some ⟨.slice e, s1, b1, z1⟩) (hE : tyOf P e = some E) (h1 : E.size = 1)
    (hlo : Bnd env lo 0 y1) (hhi : Bnd env hi n y2) (hy : y1 = (l : Int) ∧ y2 = ((l + w : Nat) : Int) ∧ l + w ≤ n ∧ (l = 0 ∨ 0 < w))
    (h : vOps P Γ mode all r ((d, .own id l w 1) :: env) L k) : vOps P Γ mode all (o :: r) env L k := by
  obtain ⟨rfl, rfl, hle, hor⟩ := hy
  refine vOps_op (pre := True) (val := .own id l w 1) (L' := L) hg hd (by rw [hk]) ?_ trivial h
  rw [hk]
  have e1 := hlo.ints
  have e2 := hhi.ints
  have e3 : (((l + w : Nat) : Int) - (l : Int)).toNat = w := by omega
  simp only [opF, findO_eval hx, sliceF, hT, hE, hL, Option.map_none, e1, e2, h1, Nat.mul_one, e3, Int.toNat_natCast, Nat.zero_add, OR.mk.injEq, and_true, eq_iff_iff, iff_true]
  refine ⟨by omega, by omega, by omega, trivial, by omega⟩
theorem kOps_sln {t e s1 b1 : Nat} {z1 : Value} {E : TI} {xx : Operand} {lo hi : Option Operand} (hk : o.op = .slice t xx lo hi none) (hg : o.guard = none) (hd : o.dst = some d) (hx : findO env xx = some (.lit (.slice none 0 0))) (hT : tyOf P t = some ⟨.slice e, s1, b1, z1⟩) (hE : tyOf P e = some E)
    (hlo : Bnd env lo 0 0) (hhi : Bnd env hi 0 0)
    (h : vOps P Γ mode all r ((d, .lit (.slice none 0 0)) :: env) L k) : vOps P Γ mode all (o :: r) env L k := by
  refine vOps_op (pre := True) (val := .lit (.slice none 0 0)) (L' := L) hg hd (by rw [hk]) ?_ trivial h
  rw [hk]
  simp only [opF, findO_eval hx, sliceF, hT, hE, Option.map_none, hlo.ints, hhi.ints, and_self]
theorem kOps_slp {t e s1 b1 m id : Nat} {z1 : Value} {E : TI} {xx : Operand} {cs : List PV} (hk : o.op = .slice t xx none none none) (hg : o.guard = none) (hd : o.dst = some d) (hx : findO env xx = some (.ptr id 0)) (hL : L[id]? = some (.cells cs)) (hT : tyOf P t = some ⟨.array m e, s1, b1, z1⟩) (hE : tyOf P e = some E) (h1 : E.size = 1) (hm : m ≤ cs.length)
    (h : vOps P Γ mode all r ((d, .own id 0 m 1) :: env) L k) : vOps P Γ mode all (o :: r) env L k := by
  refine vOps_op (pre := True) (val := .own id 0 m 1) (L' := L) hg hd (by rw [hk]) ?_ trivial h
  rw [hk]
  simp only [opF, findO_eval hx, sliceF, hT, hE, hL, Option.map_none, ints?, h1, Nat.mul_one, Int.toNat_zero, Int.sub_zero, Int.toNat_natCast, Nat.zero_add, OR.mk.injEq, and_true, eq_iff_iff, iff_true, true_or, true_and]
  omega
theorem kOps_arp {t e s1 b1 m n : Nat} {z1 : Value} {E : TI} {xx : Operand} {bs cs : List UInt8} (hk : o.op = .sliceToArrayPointer t xx) (hg : o.guard = none) (hd : o.dst = some d) (hx : findO env xx = some (.ro n (bs.map bv))) (hT : tyOf P t = some ⟨.array m e, s1, b1, z1⟩) (hE : tyOf P e = some E) (h1 : E.size = 1) (hm : n = bs.length ∧ m ≤ n ∧ 0 < m) (hc : bs.take m = cs)
    (h : vOps P Γ mode all r ((d, .rptr (cs.map bv)) :: env) L k) : vOps P Γ mode all (o :: r) env L k := by
  subst hc
  refine vOps_op (pre := True) (val := .rptr ((bs.take m).map bv)) (L' := L) hg hd (by rw [hk]) ?_ trivial h
  rw [hk]
  simp only [opF, findO_eval hx, arrF, hT, hE, h1, Nat.mul_one, List.length_map, List.map_take, OR.mk.injEq, and_true, eq_iff_iff, iff_true, Nat.lt_one_iff, Nat.zero_lt_one]
  exact ⟨hm.2.1, hm.2.2, hm.1.symm⟩
theorem kOps_copy {t t2 e s1 b1 n m id : Nat} {z1 : Value} {E : TI} {dx xx : Operand} {x : PV} {old cs new : List UInt8} {L2 : LH} (hk : o.op = .call ⟨.builtin .copy, #[dx, xx], #[t, t2]⟩) (hg : o.guard = none) (hd : o.dst = some d) (hm : dm mode o.op = false)
    (hdx : findO env dx = some (.own id 0 n 1)) (hx : findO env xx = some x) (hL : L[id]? = some (.cells (old.map bv))) (hT : tyOf P t = some ⟨.slice e, s1, b1, z1⟩) (hE : tyOf P e = some E) (h1 : E.size = 1)
    (hX : Byt L x m cs) (hc : cs.take n ++ old.drop m = new) (hL2 : L.set id (.cells (new.map bv)) = L2) (hn : n = old.length)
    (h : vOps P Γ mode all r ((d, .lit (.int .i64 ((min m n : Nat) : Int))) :: env) L2 k) : vOps P Γ mode all (o :: r) env L k := by
  subst hc hL2
  refine vOps_op (pre := True) (val := .lit (.int .i64 ((min m n : Nat) : Int))) (L' := L.set id (.cells ((cs.take n ++ old.drop m).map bv))) hg hd (by rw [hk]) ?_ trivial h
  rw [hm, hk]
  have hl := hX.len
  have e1 : cs.take (min m n) = cs.take n := by
    rw [Nat.min_comm, ← List.take_take, List.take_of_length_le (l := cs) (i := m) (by omega)]
  have e2 : old.drop (min m n) = old.drop m := by
    rcases Nat.le_total m n with h | h
    · rw [Nat.min_eq_left h]
    · rw [Nat.min_eq_right h, List.drop_eq_nil_of_le (by omega), List.drop_eq_nil_of_le (by omega)]
  simp only [opF, findO_eval hdx, findO_eval hx, copyF, hT, hE, hL, h1, hX.num, hX.row, Nat.mul_one, List.take_zero, List.nil_append, Nat.zero_add, List.length_map, List.map_append, ← List.map_take, ← List.map_drop, e1, e2, OR.mk.injEq, and_true, eq_iff_iff, iff_true]
  exact ⟨⟨hX.ok, trivial, hl.symm, by omega⟩, trivial, by simp⟩
theorem kOps_frz {t id n : Nat} {ops : List Oper} {bs : List UInt8} {L2 : LH} (hl : find env t = some (.own id 0 n 1)) (hL : L[id]? = some (.cells (bs.map bv))) (hL2 : L.set id .dead = L2) (hn : n = bs.length)
    (h : vOps P Γ .seq all ops ((t, .ro n (bs.map bv)) :: env) L2 k) : vOps P Γ .seq all ops env L k := by
  subst hL2
  have hb := byt_own hL hn
  have e : slc L (.own id 0 n 1) = ((slc L (.own id 0 n 1)).1, n, bs.map bv) :=
    Prod.ext rfl (Prod.ext hb.num hb.row)
  exact vOps_freeze (pre := (slc L (.own id 0 n 1)).1) (cs := bs.map bv) (find_lookup hl) e hb.ok (closedL_bv bs) h
theorem kOps_bsl {t e s1 b1 m q : Nat} {z1 : Value} {E : TI} {ps : List PV} {qs : List (Nat × PV)} {parts : Array (Nat × Operand)} (hk : o.op = .buildSlice t m parts) (hg : o.guard = none) (hd : o.dst = some d) (hm : dm mode o.op = false) (hx : findP env parts.toList = some qs) (hqs : qs = (List.range' 0 m).zip ps) (hT : tyOf P t = some ⟨.slice e, s1, b1, z1⟩) (hE : tyOf P e = some E) (h1 : E.size = 1) (hz : E.zero.cells.toList.length = 1) (hz2 : ∀ v ∈ E.zero.cells.toList, v.oneCell' = true)
    (hq : L.length = q) (hlen : ps.length = m) (h0 : 0 < m) (hle : m ≤ 16777216) (hc : ∀ p ∈ ps, p.cells = [p] ∧ PV.one p = true)
    (h : vOps P Γ mode all r ((d, .own q 0 m 1) :: env) (L ++ [.cells ps]) k) : vOps P Γ mode all (o :: r) env L k := by
  refine vOps_op (pre := True) (val := .own q 0 m 1) (L' := L ++ [.cells ps]) hg hd (by rw [hk]) ?_ trivial h
  rw [hm, hk]
  subst hqs
  simp only [opF, findP_eval hx, buildS hT hE h1 hz hz2 rfl hlen h0 hle hc, fresh_own, hq]
theorem kOps_bsd {t e s1 b1 m : Nat} {z1 : Value} {E : TI} {ps : List PV} {qs : List (Nat × PV)} {parts : Array (Nat × Operand)} (hk : o.op = .buildSlice t m parts) (hg : o.guard = none) (hd : o.dst = some d) (hm : dm mode o.op = true) (hx : findP env parts.toList = some qs) (hqs : qs = (List.range' 0 m).zip ps) (hT : tyOf P t = some ⟨.slice e, s1, b1, z1⟩) (hE : tyOf P e = some E) (h1 : E.size = 1) (hz : E.zero.cells.toList.length = 1) (hz2 : ∀ v ∈ E.zero.cells.toList, v.oneCell' = true)
    (hlen : ps.length = m) (h0 : 0 < m) (hle : m ≤ 16777216) (hc : ∀ p ∈ ps, p.cells = [p] ∧ PV.one p = true)
    (h : vOps P Γ mode all r ((d, .ro m ps) :: env) L k) : vOps P Γ mode all (o :: r) env L k := by
  refine vOps_op (pre := True) (val := .ro m ps) (L' := L) hg hd (by rw [hk]) ?_ trivial h
  rw [hm, hk]
  subst hqs
  simp only [opF, findP_eval hx, buildS hT hE h1 hz hz2 rfl hlen h0 hle hc, fresh_ro]
theorem pure_call {draw : Bool} {g : FuncId} {S : List PV → Prop × PV} {ps qs : List PV} {pre : Prop} {val : PV} (hΓ : Γ.tab g = .pure S) (hb : BorL L ps qs) (hv : S qs = (pre, val)) (hp : pre) (hf : closedL ps = true ∨ flat val = true) :
    callF Γ draw g ps L = ⟨True, (adopt draw val L).1, (adopt draw val L).2⟩ := by
  simp only [callF, hΓ, pureF, hb.1, hv, OR.mk.injEq, and_true, eq_iff_iff, iff_true]
  exact ⟨hp, hb.2, hf⟩
theorem kOps_callb {g : FuncId} {args : Array Operand} {tys : Array TypeId} {S : List PV → Prop × PV} {ps qs : List PV} {pre : Prop} {val : PV} (hk : o.op = .call ⟨.value (.func g), args, tys⟩) (hg : o.guard = none) (hd : o.dst = some d) (hΓ : Γ.tab g = .pure S) (hx : findL env args.toList = some ps) (hb : BorL L ps qs) (hv : S qs = (pre, val)) (hr : closed val = true) (hf : closedL ps = true ∨ flat val = true) (hp : pre)
    (h : vOps P Γ mode all r ((d, val) :: env) L k) : vOps P Γ mode all (o :: r) env L k := by
  refine vOps_call (b := dm mode o.op) (pre := True) (val := val) (L' := L) hk hg hd rfl ?_ trivial h
  rw [findL_eval hx, pure_call hΓ hb hv hp hf, adopt_closed hr]
theorem kOps_calln {g : FuncId} {args : Array Operand} {tys : Array TypeId} {S : List PV → Prop × PV} {ps qs cs : List PV} {pre : Prop} {n sz q : Nat} (hk : o.op = .call ⟨.value (.func g), args, tys⟩) (hg : o.guard = none) (hd : o.dst = some d) (hm : dm mode o.op = false) (hΓ : Γ.tab g = .pure S) (hx : findL env args.toList = some ps) (hb : BorL L ps qs) (hv : S qs = (pre, .new n sz cs)) (hq : L.length = q) (hf : closedL ps = true ∨ flatL cs = true) (hp : pre)
    (h : vOps P Γ mode all r ((d, .own q 0 n sz) :: env) (L ++ [.cells cs]) k) : vOps P Γ mode all (o :: r) env L k := by
  refine vOps_call (b := false) (pre := True) (val := .own q 0 n sz) (L' := L ++ [.cells cs]) hk hg hd hm ?_ trivial h
  rw [findL_eval hx, pure_call hΓ hb hv hp (by simpa only [flat] using hf), adopt_new, fresh_own, hq]
theorem kOps_calld {g : FuncId} {args : Array Operand} {tys : Array TypeId} {S : List PV → Prop × PV} {ps qs cs : List PV} {pre : Prop} {n sz : Nat} (hk : o.op = .call ⟨.value (.func g), args, tys⟩) (hg : o.guard = none) (hd : o.dst = some d) (hm : dm mode o.op = true) (hΓ : Γ.tab g = .pure S) (hx : findL env args.toList = some ps) (hb : BorL L ps qs) (hv : S qs = (pre, .new n sz cs)) (hf : closedL ps = true ∨ flatL cs = true) (hp : pre)
    (h : vOps P Γ mode all r ((d, .ro n cs) :: env) L k) : vOps P Γ mode all (o :: r) env L k := by
  refine vOps_call (b := true) (pre := True) (val := .ro n cs) (L' := L) hk hg hd hm ?_ trivial h
  rw [findL_eval hx, pure_call hΓ hb hv hp (by simpa only [flat] using hf), adopt_new, fresh_ro]
end kinds
theorem zip2r {n m : Nat} {a b : List UInt8} (h1 : n = a.length) (h2 : m = b.length) : [(0, PV.ro n (a.map bv)), (1, PV.ro m (b.map bv))] = (List.range' 0 2).zip ([a, b].map rowB) := by subst h1 h2; rfl
theorem zip3r {n m l : Nat} {a b c : List UInt8} (h1 : n = a.length) (h2 : m = b.length) (h3 : l = c.length) : [(0, PV.ro n (a.map bv)), (1, PV.ro m (b.map bv)), (2, PV.ro l (c.map bv))] = (List.range' 0 3).zip ([a, b, c].map rowB) := by subst h1 h2 h3; rfl
theorem one_cells_bv {bs : List UInt8} : ∀ p ∈ bs.map bv, p.cells = [p] ∧ PV.one p = true := by
  intro p hp; rw [List.mem_map] at hp; obtain ⟨b, _, rfl⟩ := hp; exact ⟨rfl, rfl⟩
theorem one_cells_rows {bss : List (List UInt8)} : ∀ p ∈ bss.map rowB, p.cells = [p] ∧ PV.one p = true := by
  intro p hp; rw [List.mem_map] at hp; obtain ⟨b, _, rfl⟩ := hp; exact ⟨rfl, rfl⟩
theorem ul_lit {n : Nat} (h : n < 18446744073709551616) : ul n = .lit (.int .u64 (n : Int)) := by simp only [ul, Nat.mod_eq_of_lt h]
theorem drop_rest {bs : List UInt8} {l w : Nat} (h : l + w = bs.length) : (bs.drop l).take w = bs.drop l := List.take_of_length_le (by simp; omega)
theorem lit128 : PV.lit (.int .u8 128) = bv 128 := rfl
theorem fin_new {fn : Func} {t id n : Nat} {bs : List UInt8} {e : Exit} (he : e = .normal ∨ e = .ret) (hr : fn.results.toList = [.tmp t]) (hl : find env t = some (.own id 0 n 1)) (hL : L[id]? = some (.cells (bs.map bv))) (hn : n = bs.length) : Fin P fn (newB bs) e env L :=
  fin_bytes (pre := True) he hr (by rw [resOne_tmp, find_lookup hl]) trivial hL (Nat.zero_le _) hn (by rw [List.drop_zero, hn, take_bytes])
theorem fin_none {fn : Func} {t id : Nat} {cs : List PV} {e : Exit} (he : e = .normal ∨ e = .ret) (hr : fn.results.toList = [.tmp t]) (hl : find env t = some (.own id 0 0 1)) (hL : L[id]? = some (.cells cs)) : Fin P fn (.new 0 1 []) e env L := by
  have := fin_bytes (P := P) (bs := []) (pre := True) he hr (by rw [resOne_tmp, find_lookup hl]; rfl) trivial hL (Nat.zero_le _) rfl (by simp)
  exact this
end Go.Ab
namespace Go.Ab
open Go Go.RowKit
set_option linter.unusedVariables false
set_option linter.unusedSimpArgs false
theorem isB_iff {n : Nat} {bs : List UInt8} (h : n = bs.length) : isB n (bs.map bv) ↔ True := by subst h; exact isB_bv bs
def sConcatR : List PV → Prop × PV
  | [.ro n cs] => (n = cs.length ∧ 1 ≤ n ∧ n ≤ 1000 ∧ isRows cs ∧ (rowsOf cs).flatten.length ≤ 70368744177664, newB (rowsOf cs).flatten)
  | _ => (False, .any)
theorem flat_next {bss : List (List UInt8)} {i : Nat} (h : i < bss.length) : (bss.take (i + 1)).flatten = (bss.take i).flatten ++ bss.getD i [] := by
  rw [List.take_add_one, List.getElem?_eq_getElem h, List.flatten_append, List.getD_eq_getElem?_getD, List.getElem?_eq_getElem h]
  simp
theorem flat_le (bss : List (List UInt8)) (i : Nat) : (bss.take i).flatten.length ≤ bss.flatten.length := by
  conv => rhs; rw [← List.take_append_drop i bss, List.flatten_append, List.length_append]
  omega
theorem tmod64n (m : Nat) : (m : Int).tmod 64 = ((m % 64 : Nat) : Int) := (Int.ofNat_tmod m 64).symm
theorem take64 (l : List UInt8) : (l.take 64).take 64 = l.take 64 := by rw [List.take_take]; rfl
end Go.Ab
namespace Go.Ab
set_option linter.unusedVariables false
set_option linter.unusedSimpArgs false
theorem drop64 {b : List UInt8} {i : Nat} (h : 64 * (i + 1) ≤ b.length) : ((b.drop (64 * i)).drop 64).take (b.length - 64 * (i + 1)) = b.drop (64 * (i + 1)) := by
  rw [List.drop_drop, show 64 * i + 64 = 64 * (i + 1) by omega]
  exact drop_rest (by omega)
end Go.Ab
namespace Go.Ab
set_option linter.unusedVariables false
set_option linter.unusedSimpArgs false
theorem rowsOf_c (b : List UInt8) (r : List PV) : rowsOf (rowB b :: r) = b :: rowsOf r := by
  show bytesOf (b.map bv) :: rowsOf r = _
  rw [bytesOf_bv]
theorem rowsOf_n : rowsOf [] = [] := rfl
theorem isRows_c (b : List UInt8) (r : List PV) : isRows (rowB b :: r) ↔ isRows r := ⟨fun h => h.2, fun h => ⟨(isB_bv b).2 trivial, h⟩⟩
theorem isRows_n : isRows [] ↔ True := Iff.rfl
end Go.Ab
namespace Go.Ab
set_option linter.unusedVariables false
set_option linter.unusedSimpArgs false
theorem copy64 {m : List UInt8} {i : Nat} {n : Nat} (h : 64 * i + 64 ≤ m.length) (hl : (m.drop (64 * i)).length = n) : (m.drop (64 * i)).take 64 ++ (List.replicate 64 (0 : UInt8)).drop n = (m.drop (64 * i)).take 64 := by
  rw [List.length_drop] at hl
  have e : (List.replicate 64 (0 : UInt8)).drop n = [] := List.drop_eq_nil_of_le (by simp; omega)
  rw [e, List.append_nil]
end Go.Ab
namespace Go.Ab
open Go Go.RowKit
set_option linter.unusedVariables false
set_option linter.unusedSimpArgs false
section
variable {P : Program} {Γ : Con} {L : LH} {env : Env} {mode : Mode} {all r : List Oper} {o : Oper} {k : Env → LH → Prop} {d : Nat}
theorem kOps_cvb {t e s1 b1 n id : Nat} {z1 : Value} {xx : Operand} {bs : List UInt8} {L2 : LH} (hk : o.op = .convert t t xx) (hg : o.guard = none) (hd : o.dst = some d) (hm : dm mode o.op = false) (hx : findO env xx = some (.own id 0 n 1)) (hL : L[id]? = some (.cells (bs.map bv))) (hT : tyOf P t = some ⟨.slice e, s1, b1, z1⟩) (hE : tyOf P e = some ⟨.int .u8, 1, 1, .int .u8 0⟩)
    (hL2 : L.set id .dead = L2) (hn : n = bs.length ∧ 0 < n) (h : vOps P Γ mode all r ((d, .ro n (bs.map bv)) :: env) L2 k) : vOps P Γ mode all (o :: r) env L k := by
  subst hL2
  have hb := byt_own hL hn.1
  refine vOps_op (pre := True) (val := .ro n (bs.map bv)) (L' := L.set id .dead) hg hd (by rw [hk]) ?_ trivial h
  rw [hm, hk]
  simp only [opF, findO_eval hx, convG, hT, hE, hb.row, hb.ok, closedL_bv, OR.mk.injEq, and_true, eq_iff_iff, iff_true, true_and]
  exact hn.2
theorem kOps_str {s t e s1 b1 s2 b2 m : Nat} {z1 z2 : Value} {xx : Operand} {x : PV} {cs : List UInt8} (hk : o.op = .convert s t xx) (hg : o.guard = none) (hd : o.dst = some d) (hx : findO env xx = some x) (hS : tyOf P s = some ⟨.slice e, s1, b1, z1⟩) (hT : tyOf P t = some ⟨.string, s2, b2, z2⟩) (hE : tyOf P e = some ⟨.int .u8, 1, 1, .int .u8 0⟩) (hX : Byt L x m cs)
    (h : vOps P Γ mode all r ((d, .lit (.string ⟨cs.toArray⟩)) :: env) L k) : vOps P Γ mode all (o :: r) env L k := by
  refine vOps_conv (pre := True) (val := .lit (.string ⟨cs.toArray⟩)) (L' := L) hk hg hd ?_ trivial h
  rw [findO_eval hx]
  have hp := (isByte_bv cs).2 trivial
  simp only [convF, hS, hT, hE, hX.ok, hX.row, hX.num, List.length_map, map_byteOf_bv, OR.mk.injEq, and_true, eq_iff_iff, iff_true, true_and]
  exact ⟨hX.len.symm, hp⟩
theorem kOps_bst {s t e s1 b1 s2 b2 : Nat} {z1 z2 : Value} {xx : Operand} {b : ByteArray} (hk : o.op = .convert s t xx) (hg : o.guard = none) (hd : o.dst = some d) (hx : findO env xx = some (.lit (.string b))) (hS : tyOf P s = some ⟨.string, s2, b2, z2⟩) (hT : tyOf P t = some ⟨.slice e, s1, b1, z1⟩) (hE : tyOf P e = some ⟨.int .u8, 1, 1, .int .u8 0⟩)
    (h : vOps P Γ mode all r ((d, .ro b.size (b.data.toList.map bv)) :: env) L k) : vOps P Γ mode all (o :: r) env L k := by
  refine vOps_conv (pre := True) (val := .ro b.size (b.data.toList.map bv)) (L' := L) hk hg hd ?_ trivial h
  rw [findO_eval hx]
  simp only [convF, hS, hT, hE]
theorem eql_bv {t : TypeId} (a b : UInt8) : binF P .eql t (bv a) (bv b) L = ⟨True, .lit (.bool (decide (a = b))), L⟩ := by
  simp only [bv, binF_eql, OR.mk.injEq, PV.lit.injEq, Value.bool.injEq, true_and, and_true, decide_eq_decide, Int.ofNat_inj]
  exact UInt8.toNat_inj
theorem str_same (s : ByteArray) : (s.toList == s.toList) = true := by simp
end
theorem sum0_0 : (sum []).getD 0 0 = 227 := by decide +kernel
theorem sum0_1 : (sum []).getD 1 0 = 176 := by decide +kernel
theorem sum0_31 : (sum []).getD 31 0 = 85 := by decide +kernel
theorem sum3_0 : (sum [97, 98, 99]).getD 0 0 = 186 := by decide +kernel
theorem sum3_1 : (sum [97, 98, 99]).getD 1 0 = 120 := by decide +kernel
theorem sum3_31 : (sum [97, 98, 99]).getD 31 0 = 173 := by decide +kernel
theorem lit227 : PV.lit (.int .u8 227) = bv 227 := rfl
theorem lit176 : PV.lit (.int .u8 176) = bv 176 := rfl
theorem lit85 : PV.lit (.int .u8 85) = bv 85 := rfl
theorem lit186 : PV.lit (.int .u8 186) = bv 186 := rfl
theorem lit120 : PV.lit (.int .u8 120) = bv 120 := rfl
theorem lit173 : PV.lit (.int .u8 173) = bv 173 := rfl
def sSaneS : List PV → Prop × PV
  | [] => (True, .lit (.bool true))
  | _ => (False, .any)
end Go.Ab
namespace Go.Ab
set_option linter.unusedVariables false
set_option linter.unusedSimpArgs false
theorem by_nil : bytesOf [] = [] := rfl
theorem by_abc : bytesOf [bv 97, bv 98, bv 99] = [97, 98, 99] := bytesOf_bv [97, 98, 99]
end Go.Ab
namespace Go.Ab
set_option linter.unusedVariables false
set_option linter.unusedSimpArgs false
theorem isB_nil : isB 0 [] ↔ True := isB_bv []
theorem isB_abc : isB 3 [bv 97, bv 98, bv 99] ↔ True := isB_bv [97, 98, 99]
end Go.Ab
namespace Go.Ab
open Go Go.RowKit
set_option linter.unusedVariables false
set_option linter.unusedSimpArgs false
def sLC : List PV → Prop × PV
  | [s, .agg cs] => (isS s ∧ isB 64 cs, .lit (.bool true))
  | _ => (False, .any)
def sLP : List PV → Prop × PV
  | [x] => (isul x, .lit (.bool true))
  | _ => (False, .any)
def sLS : List PV → Prop × PV
  | [.ro n cs] => (isB n cs ∧ n ≤ 9223372036854775807, .lit (.bool true))
  | _ => (False, .any)
def sDouble : List PV → Prop × PV
  | [.ro n cs] => (isB n cs ∧ n ≤ 35184372088832, .agg ((sum (sum (bytesOf cs))).map bv))
  | _ => (False, .any)
theorem eql_sv {P : Program} {L : LH} {t e s1 b1 b2 : Nat} {z1 z2 : Value} (s : S8) (ht : tyOf P t = some ⟨.array 8 e, s1, b1, z1⟩) (he : tyOf P e = some ⟨.int .u32, 1, b2, z2⟩) :
    binF P .eql t (sv s) (sv s) L = ⟨True, .lit (.bool true), L⟩ := eql_wr s.l (len_l s) ht he
theorem eql_sum {P : Program} {L : LH} {t e s1 b1 b2 : Nat} {z1 z2 : Value} (b : List UInt8) (ht : tyOf P t = some ⟨.array 32 e, s1, b1, z1⟩) (he : tyOf P e = some ⟨.int .u8, 1, b2, z2⟩) :
    binF P .eql t (.agg ((sum b).map bv)) (.agg ((sum b).map bv)) L = ⟨True, .lit (.bool true), L⟩ := eql_bs _ (len_sum b) ht he
theorem pad_mod (n : Nat) : (n + (pad n).length) % 64 = 0 := pad_fits n
end Go.Ab
namespace Go.Ab
open Go Go.RowKit
set_option linter.unusedVariables false
set_option linter.unusedSimpArgs false
section
variable {P : Program} {Γ : Con} {L : LH} {env : Env} {mode : Mode} {all r : List Oper} {o : Oper} {k : Env → LH → Prop} {d : Nat}
theorem kOps_slq {t e s1 b1 m : Nat} {z1 : Value} {E : TI} {xx : Operand} {bs : List UInt8} (hk : o.op = .slice t xx none none none) (hg : o.guard = none) (hd : o.dst = some d) (hx : findO env xx = some (.rptr (bs.map bv))) (hT : tyOf P t = some ⟨.array m e, s1, b1, z1⟩) (hE : tyOf P e = some E) (h1 : E.size = 1) (hm : bs.length = m ∧ 0 < m)
    (h : vOps P Γ mode all r ((d, .ro m (bs.map bv)) :: env) L k) : vOps P Γ mode all (o :: r) env L k := by
  refine vOps_op (pre := True) (val := .ro m (bs.map bv)) (L' := L) hg hd (by rw [hk]) ?_ trivial h
  rw [hk]
  simp only [opF, findO_eval hx, sliceF, hT, hE, Option.map_none, ints?, h1, Nat.mul_one, List.length_map, Nat.zero_lt_one, and_true, true_and, OR.mk.injEq, eq_iff_iff, iff_true]
  exact ⟨hm.2, hm.1⟩
theorem kOps_frzp {t id : Nat} {bs : List UInt8} {L2 : LH} (hl : find env t = some (.ptr id 0)) (hL : L[id]? = some (.cells (bs.map bv))) (hL2 : L.set id .dead = L2)
    (h : vOps P Γ .seq all [] ((t, .rptr (bs.map bv)) :: env) L2 k) : vOps P Γ .seq all [] env L k := by
  subst hL2
  exact vOps_freezep (find_lookup hl) hL (closedL_bv bs) h
theorem kOps_appmo {t t2 e s1 b1 s2 b2 q m n id : Nat} {z1 z2 : Value} {sx xx : Operand} {kk k2 : IntKind} {z : Int} {bs : List UInt8} {L2 : LH} (hk : o.op = .call ⟨.builtin .append, #[sx, xx], #[t, t2]⟩) (hg : o.guard = none) (hd : o.dst = some d) (hm : dm mode o.op = false)
    (hs : findO env sx = some (.own id 0 n 1)) (hx : findO env xx = some (.lit (.int kk z))) (hL : L[id]? = some (.cells (bs.map bv))) (hT : tyOf P t = some ⟨.slice e, s1, b1, z1⟩) (hT2 : tyOf P t2 = some ⟨.int k2, s2, b2, z2⟩) (hE : tyOf P e = some ⟨.int .u8, 1, 1, .int .u8 0⟩)
    (hq : L.length = q) (hL2 : L.set id .dead ++ [.cells ((bs ++ List.replicate m (0 : UInt8)).map bv)] = L2) (hz : z = (m : Int)) (hn : n = bs.length ∧ n + m ≤ 140737488355328)
    (h : vOps P Γ mode all r ((d, .own q 0 (n + m) 1) :: env) L2 k) : vOps P Γ mode all (o :: r) env L k := by
  subst hz hL2
  obtain ⟨rfl, hn⟩ := hn
  refine vOps_op (pre := True) (val := .own q 0 (bs.length + m) 1) (L' := L.set id .dead ++ [.cells ((bs ++ List.replicate m (0 : UInt8)).map bv)]) hg hd (by rw [hk]) ?_ trivial h
  rw [hm, hk]
  have hr := rep_zeros m
  have z1 : (Value.int IntKind.u8 0).cells.size = 1 := rfl
  have z2 : ∀ v ∈ (Value.int IntKind.u8 0).cells.toList, v.oneCell' = true := by decide
  have hsl : (slc L (.own id 0 bs.length 1)) = (0 + bs.length * 1 ≤ (bs.map bv).length, bs.length, bs.map bv) := by
    simp only [slc, hL, Prod.mk.injEq, true_and, List.drop_zero, Nat.mul_one]
    exact List.take_of_length_le (by simp)
  simp only [opF, findO_eval hs, findO_eval hx, appF, hT, hE, news, hT2, hsl, kill, hq, z1, Int.toNat_natCast, hr, List.map_append, List.length_map, Nat.mul_one, Nat.zero_add, Nat.le_refl, OR.mk.injEq, and_true, true_and, eq_iff_iff, iff_true]
  exact ⟨by omega, ⟨by omega, by omega, by omega, z2⟩, by omega, by omega⟩
end
theorem lit54 : PV.lit (.int .u8 54) = bv 54 := rfl
theorem lit92 : PV.lit (.int .u8 92) = bv 92 := rfl
def key64 (k : List UInt8) : List UInt8 := if 64 < k.length then (sum k) ++ List.replicate 32 0 else k ++ List.replicate (64 - k.length) 0
theorem len_key64 (k : List UInt8) : (key64 k).length = 64 := by
  unfold key64
  split
  · rw [List.length_append, len_sum, List.length_replicate]
  · rw [List.length_append, List.length_replicate]; omega
def mask (m : UInt8) (b : List UInt8) : List UInt8 := b.map (· ^^^ m)
theorem len_mask (m : UInt8) (b : List UInt8) : (mask m b).length = b.length := by simp [mask]
def hmac (k b : List UInt8) : List UInt8 := sum (mask 92 (key64 k) ++ sum (mask 54 (key64 k) ++ b))
def tagged (t b : List UInt8) : List UInt8 := sum (sum t ++ sum t ++ b)
theorem len_hmac (k b : List UInt8) : (hmac k b).length = 32 := len_sum _
theorem len_tagged (k b : List UInt8) : (tagged k b).length = 32 := len_sum _
theorem hmac_def (k b : List UInt8) : sum (mask 92 (key64 k) ++ sum (mask 54 (key64 k) ++ b)) = hmac k b := rfl
theorem tagged_def (t b : List UInt8) : sum (sum t ++ sum t ++ b) = tagged t b := rfl
theorem key_long {k : List UInt8} (h : 64 < k.length) : sum k ++ List.replicate 32 0 = key64 k := by rw [key64, if_pos h]
theorem key_short {k : List UInt8} (h : ¬ 64 < k.length) : k ++ List.replicate (64 - k.length) 0 = key64 k := by rw [key64, if_neg h]
theorem key_sum {k : List UInt8} (h : 64 < k.length) : key64 (sum k) = key64 k := by
  rw [← key_long h, ← key_short (k := sum k) (by rw [len_sum]; omega), len_sum]
theorem key_pad {k : List UInt8} (h : ¬ 64 < k.length) : key64 (k ++ List.replicate (64 - k.length) 0) = key64 k := by
  have hl : (k ++ List.replicate (64 - k.length) (0 : UInt8)).length = 64 := by rw [List.length_append, List.length_replicate]; omega
  rw [← key_short h, ← key_short (k := k ++ List.replicate (64 - k.length) 0) (by omega), hl, Nat.sub_self, List.replicate_zero, List.append_nil, key_short h]
theorem mask_set {m : UInt8} {b : List UInt8} {i : Nat} (h : i < b.length) : (mix b.length (fun j => b.getD j 0) (fun j => b.getD j 0 ^^^ m) i).set i ((mix b.length (fun j => b.getD j 0) (fun j => b.getD j 0 ^^^ m) i).getD i 0 ^^^ m) = mix b.length (fun j => b.getD j 0) (fun j => b.getD j 0 ^^^ m) (i + 1) := by
  rw [mix_get h]; exact mix_set h
theorem mask_zero (m : UInt8) (b : List UInt8) : b = mix b.length (fun j => b.getD j 0) (fun j => b.getD j 0 ^^^ m) 0 := by
  apply List.ext_getElem (by rw [len_mix])
  intro i h1 h2
  unfold mix
  simp [List.getD_eq_getElem?_getD, h1]
theorem mask_all (m : UInt8) (b : List UInt8) : mix b.length (fun j => b.getD j 0) (fun j => b.getD j 0 ^^^ m) b.length = mask m b := by
  apply List.ext_getElem (by rw [len_mix, len_mask])
  intro i h1 h2
  have hi : i < b.length := by rw [len_mask] at h2; exact h2
  unfold mix
  simp [mask, List.getD_eq_getElem?_getD, hi]
theorem copy_key {k : List UInt8} (h : k.length ≤ 64) : k.take 64 ++ (List.replicate 64 (0 : UInt8)).drop k.length = k ++ List.replicate (64 - k.length) 0 := by
  rw [List.take_of_length_le h, List.drop_replicate]
def sKeyBlock : List PV → Prop × PV
  | [.ro n cs] => (isB n cs ∧ n ≤ 35184372088832, .agg ((key64 (bytesOf cs)).map bv))
  | _ => (False, .any)
def isU8 (p : PV) : Prop := ∃ x, p = bv x
def sMask : List PV → Prop × PV
  | [.agg cs, x] => (isB 64 cs ∧ isU8 x, newB (mask (byteOf x) (bytesOf cs)))
  | _ => (False, .any)
theorem isU8_bv (x : UInt8) : isU8 (bv x) ↔ True := by simp only [iff_true]; exact ⟨x, rfl⟩
theorem byteOf_bv (b : UInt8) : byteOf (bv b) = b := by
  have := map_byteOf_bv [b]
  simpa using this
def sHmac : List PV → Prop × PV
  | [.ro n cs, .ro m ds] => (isB n cs ∧ isB m ds ∧ n ≤ 1048576 ∧ m ≤ 1048576, .agg ((hmac (bytesOf cs) (bytesOf ds)).map bv))
  | _ => (False, .any)
def sTagged : List PV → Prop × PV
  | [.lit (.string t), .ro m ds] => (t.size ≤ 1048576 ∧ isB m ds ∧ m ≤ 1048576, .agg ((tagged t.data.toList (bytesOf ds)).map bv))
  | _ => (False, .any)
attribute [irreducible] mask key64 hmac tagged
end Go.Ab
namespace Go.Ab
theorem copy_long {k : List UInt8} (h : 64 < k.length) : (sum k).take 64 ++ (List.replicate 64 (0 : UInt8)).drop 32 = key64 k := by
  rw [← key_long h, List.take_of_length_le (by rw [len_sum]; omega), List.drop_replicate]
theorem copy_short {k : List UInt8} (h : ¬ 64 < k.length) : k.take 64 ++ (List.replicate 64 (0 : UInt8)).drop k.length = key64 k := by
  rw [← key_short h, copy_key (by omega)]
end Go.Ab
namespace Go.Ab
open Go Go.RowKit
def sLL : List PV → Prop × PV
  | [.ro n cs, .ro m ds] => (isB n cs ∧ isB m ds ∧ n ≤ 9223372036854775807 ∧ m ≤ 9223372036854775807, .lit (.bool true))
  | _ => (False, .any)
def sLD : List PV → Prop × PV
  | [.lit (.string t), .ro m ds] => (t.size ≤ 9223372036854775807 ∧ isB m ds ∧ m ≤ 9223372036854775807, .lit (.bool true))
  | _ => (False, .any)
def sLK : List PV → Prop × PV
  | [.lit (.string t), .ro n cs, .ro m ds] => (t.size ≤ 9223372036854775807 ∧ isB n cs ∧ isB m ds ∧ n ≤ 9223372036854775807 ∧ m ≤ 9223372036854775807, .lit (.bool true))
  | _ => (False, .any)
theorem hmac_long {k b : List UInt8} (h : 64 < k.length) : hmac (sum k) b = hmac k b := by rw [← hmac_def, key_sum h, hmac_def]
theorem hmac_pad {k b : List UInt8} (h : ¬ 64 < k.length) : hmac (k ++ List.replicate (64 - k.length) 0) b = hmac k b := by rw [← hmac_def, key_pad h, hmac_def]
theorem eql_hmac {P : Program} {L : LH} {t e s1 b1 b2 : Nat} {z1 z2 : Value} (k b : List UInt8) (ht : tyOf P t = some ⟨.array 32 e, s1, b1, z1⟩) (he : tyOf P e = some ⟨.int .u8, 1, b2, z2⟩) :
    binF P .eql t (.agg ((hmac k b).map bv)) (.agg ((hmac k b).map bv)) L = ⟨True, .lit (.bool true), L⟩ := eql_bs _ (len_hmac k b) ht he
theorem eql_tagged {P : Program} {L : LH} {t e s1 b1 b2 : Nat} {z1 z2 : Value} (k b : List UInt8) (ht : tyOf P t = some ⟨.array 32 e, s1, b1, z1⟩) (he : tyOf P e = some ⟨.int .u8, 1, b2, z2⟩) :
    binF P .eql t (.agg ((tagged k b).map bv)) (.agg ((tagged k b).map bv)) L = ⟨True, .lit (.bool true), L⟩ := eql_bs _ (len_tagged k b) ht he
theorem size_l (s : ByteArray) : s.size = s.data.toList.length := by rw [Array.length_toList]; rfl
theorem tagged_r (t b : List UInt8) : sum (sum t ++ (sum t ++ b)) = tagged t b := by rw [← List.append_assoc, tagged_def]
theorem lenF_str {P : Program} {L : LH} {t s1 b1 : Nat} {z1 : Value} {s : ByteArray} (h : tyOf P t = some ⟨.string, s1, b1, z1⟩) : lenF P t (.lit (.string s)) L = ⟨True, .lit (.int .i64 (s.size : Int)), L⟩ := by simp only [lenF, h]
end Go.Ab
namespace Go.Ab
set_option linter.unusedVariables false
theorem fk {k : List UInt8} {m x : UInt8} {i : Nat} (h : i < 64) (hx : x = (key64 k).getD i 0) : (fill 64 0 (fun j => (key64 k).getD j 0 ^^^ m) i).set i (x ^^^ m) = fill 64 0 (fun j => (key64 k).getD j 0 ^^^ m) (i + 1) := by
  subst hx; exact fill_set (f := fun j => (key64 k).getD j 0 ^^^ m) h
theorem fill_mask (k : List UInt8) (m : UInt8) : fill 64 0 (fun j => (key64 k).getD j 0 ^^^ m) 64 = mask m (key64 k) := by
  rw [fill_all]
  have hl := len_key64 k
  generalize key64 k = b at hl
  unfold mask
  apply List.ext_getElem (by simp [hl])
  intro i h1 h2
  have hi : i < b.length := by simpa using h2
  simp [List.getD_eq_getElem?_getD, hi]
theorem key_g1 {k : List UInt8} {i : Nat} (h : 64 < k.length) (hi : i < 32) : (sum k).getD i 0 = (key64 k).getD i 0 := by
  rw [← key_long h, List.getD_eq_getElem?_getD, List.getD_eq_getElem?_getD, List.getElem?_append_left (by rw [len_sum]; exact hi)]
theorem key_g2 {k : List UInt8} {i : Nat} (h : 64 < k.length) (hi : ¬ i < 32) : 0 = (key64 k).getD i 0 := by
  rw [← key_long h, List.getD_eq_getElem?_getD, List.getElem?_append_right (by rw [len_sum]; omega), List.getElem?_replicate]
  split <;> rfl
theorem key_g3 {k : List UInt8} {i : Nat} (h : ¬ 64 < k.length) (hi : i < k.length) : k.getD i 0 = (key64 k).getD i 0 := by
  rw [← key_short h, List.getD_eq_getElem?_getD, List.getD_eq_getElem?_getD, List.getElem?_append_left hi]
theorem key_g4 {k : List UInt8} {i : Nat} (h : ¬ 64 < k.length) (hi : ¬ i < k.length) : 0 = (key64 k).getD i 0 := by
  rw [← key_short h, List.getD_eq_getElem?_getD, List.getElem?_append_right (by omega), List.getElem?_replicate]
  split <;> rfl
theorem lit0b : PV.lit (.int .u8 0) = bv 0 := rfl
end Go.Ab
namespace Go.Ab
open Go Go.RowKit
section
variable {P : Program} {Γ : Con} {mode : Mode} {all r : List Oper} {o : Oper} {k : Env → LH → Prop} {env : Env} {L : LH} {d : Nat}
theorem kOps_min {t t2 a b : Nat} {sx sy : Operand} (hk : o.op = .call ⟨.builtin .min, #[sx, sy], #[t, t2]⟩) (hg : o.guard = none) (hd : o.dst = some d) (hx : findO env sx = some (.lit (.int .i64 (a : Int)))) (hy : findO env sy = some (.lit (.int .i64 (b : Int))))
    (h : vOps P Γ mode all r ((d, .lit (.int .i64 ((min a b : Nat) : Int))) :: env) L k) : vOps P Γ mode all (o :: r) env L k := by
  refine vOps_op (pre := True) (val := .lit (.int .i64 ((min a b : Nat) : Int))) (L' := L) hg hd (by rw [hk]) ?_ trivial h
  rw [hk]
  simp only [opF, findO_eval hx, findO_eval hy, minF]
  have e : (if (b : Int) < (a : Int) then (b : Int) else (a : Int)) = ((min a b : Nat) : Int) := by split <;> omega
  rw [e]
end
theorem tdiv64 (m : Nat) : (m : Int).tdiv 64 = ((m / 64 : Nat) : Int) := (Int.ofNat_tdiv m 64).symm
theorem neq_uw {P : Program} {L : LH} {t : Nat} (x : W) : binF P .neq t (uw x) (uw x) L = ⟨True, .lit (.bool false), L⟩ := by
  unfold uw
  rw [binF_neq]; simp
def sLH : List PV → Prop × PV
  | [.ro n cs, y] => (isB n cs ∧ isU8 y ∧ n ≤ 9223372036854775807, .lit (.bool true))
  | _ => (False, .any)
end Go.Ab
namespace Go.Ab
open Go Go.RowKit
theorem bits_bw (w : W) (s j : Nat) : (bw (wb (w >>> s))).getLsbD j = (decide (j < 8) && w.getLsbD (s + j)) := by
  unfold bw wb
  rw [BitVec.getLsbD_ofNat]
  simp only [UInt8.toNat_ofNat', Nat.reducePow]
  rw [show (256 : Nat) = 2 ^ 8 from rfl, Nat.testBit_mod_two_pow, ← BitVec.getLsbD, BitVec.getLsbD_ushiftRight]
  by_cases h : j < 8
  · simp [h, show j < 32 by omega]
  · simp [h]
theorem four_back (w : W) : bw (wb (w >>> 24)) <<< 24 ||| bw (wb (w >>> 16)) <<< 16 ||| bw (wb (w >>> 8)) <<< 8 ||| bw (wb (w >>> 0)) = w := by
  apply BitVec.eq_of_getLsbD_eq
  intro j hj
  simp only [BitVec.getLsbD_or, BitVec.getLsbD_shiftLeft, bits_bw]
  by_cases h1 : j < 8
  · simp [h1, hj, show j < 16 by omega, show j < 24 by omega]
  · by_cases h2 : j < 16
    · simp [h1, h2, hj, show j < 24 by omega, show j - 8 < 8 by omega, show 8 + (j - 8) = j by omega]
    · by_cases h3 : j < 24
      · simp [h1, h2, h3, hj, show ¬ j - 8 < 8 by omega, show j - 16 < 8 by omega, show 16 + (j - 16) = j by omega]
      · simp [h1, h2, h3, hj, show ¬ j - 8 < 8 by omega, show ¬ j - 16 < 8 by omega, show j - 24 < 8 by omega, show 24 + (j - 24) = j by omega]
theorem dig_get (s : S8) {i r : Nat} (h : i < 8) (hr : r < 4) : (dig s).getD (4 * i + r) 0 = wb (s.l.getD i 0 >>> (8 * (3 - r))) := by
  unfold dig
  rw [List.getD_eq_getElem?_getD, List.getElem?_map, List.getElem?_range (by omega), Option.map_some, Option.getD_some]
  unfold dbyte
  rw [show (4 * i + r) / 4 = i by omega, show (4 * i + r) % 4 = r by omega]
theorem word_dig (s : S8) {i : Nat} (h : i < 8) : bw ((dig s).getD (4 * i) 0) <<< 24 ||| bw ((dig s).getD (4 * i + 1) 0) <<< 16 ||| bw ((dig s).getD (4 * i + 2) 0) <<< 8 ||| bw ((dig s).getD (4 * i + 3) 0) = s.l.getD i 0 := by
  have h0 := dig_get s h (r := 0) (by omega)
  rw [Nat.add_zero] at h0
  rw [h0, dig_get s h (by omega), dig_get s h (by omega), dig_get s h (by omega)]
  exact four_back _
theorem word_sum (b : List UInt8) {i : Nat} (h : i < 8) : bw ((sum b).getD (4 * i) 0) <<< 24 ||| bw ((sum b).getD (4 * i + 1) 0) <<< 16 ||| bw ((sum b).getD (4 * i + 2) 0) <<< 8 ||| bw ((sum b).getD (4 * i + 3) 0) = (absorb ((msg b).length / 64) init8 (msg b)).l.getD i 0 := by
  rw [← sum_def]
  exact word_dig _ h
end Go.Ab
namespace Go.Ab
open Go Go.RowKit
theorem ro_msg (b : List UInt8) : PV.ro (b.length + (pad b.length).length) ((b ++ pad b.length).map bv) = .ro ((msg b).length - 64 * 0) (((msg b).drop (64 * 0)).map bv) := by
  rw [Nat.mul_zero, Nat.sub_zero, List.drop_zero, msg_def, List.length_append]
theorem ren_msg {m : List Nat} (b : List UInt8) : RenOk m (PV.ro (b.length + (pad b.length).length) ((b ++ pad b.length).map bv)) (.ro ((msg b).length - 64 * 0) (((msg b).drop (64 * 0)).map bv)) := ren_eq (by simp only [closed, closedL_bv]) (ro_msg b)
end Go.Ab
namespace Go.Ab
open Go Go.RowKit
theorem wrap_b64 (x : UInt8) : IntKind.i64.wrap (x.toNat : Int) = (x.toNat : Int) := by
  have := x.toNat_lt
  exact wrap_i64 (by omega) (by omega)
end Go.Ab
