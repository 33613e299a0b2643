import Derived.Test.YtipnfcbpbomonaaDoorRows
import Derived.WalkKit
import Derived.ProofKit
import Derived.LaidMore
import Derived.OpenShut
import Derived.Stop.Joined
import Derived.Test.YtipnfcbpbomonaaDoorM11
namespace Go.Ab
open Go Go.Proofs Go.RowKit
set_option linter.unusedVariables false
set_option linter.unusedSimpArgs false
section
variable {H : Type} {enc : TypeId × Value → H} {P : Program} {t e : TypeId} {n : Nat} {q : IntKind} {W : World} {base : Nat} {sp : Nat → Bool} {held : Bool}
/-- What a listed array of numbers holds. -/
theorem nums_laid (ht : P.underlying t = some (.array n e)) (hc : P.cellsOf e = 1) (he : P.underlying e = some (.int q)) {fuel : Nat} {cs : List Value} {ns : List Int} {ps : List MemPlace}
    (hd : DataW.trod enc P W base sp held fuel t cs = some (.agg (ns.map fun z => .lit (.int q z)), ps)) : ∀ (i : Nat) z, ns[i]? = some z → cs[i]? = some (.int q z) := by
  obtain ⟨xs, m, _, hx, _, hl, hi⟩ := DataW.trod_array ht hd
  have hx1 : ns.map (fun z => DataW.lit (.int q z)) = xs.map (·.1) := by
    have := congrArg Prod.fst hx
    simpa using this
  intro i z hz
  have hlen : ns.length = xs.length := by simpa using congrArg List.length hx1
  have hin : i < n := by
    have := (List.getElem?_eq_some_iff.1 hz).1
    omega
  have hx2 : xs[i]? = some xs[i] := by simp [hl, hin]
  have h3 := hi i hin
  rw [hc, Nat.mul_one, hx2] at h3
  obtain ⟨k, e1, e2, _⟩ := DataW.trod_int he h3
  have e3 : (xs.map (·.1))[i]? = some (DataW.lit (.int q k)) := by rw [List.getElem?_map, hx2, e2]; rfl
  rw [← hx1, List.getElem?_map, hz] at e3
  have e4 : z = k := by simpa using e3
  have e5 := congrArg List.head? e1
  simp only [List.head?_take, List.head?_drop, List.head?_cons] at e5
  rw [e4]
  simpa using e5
end
theorem glob_one {W : World} {g : Nat} {k : IntKind} {ns : List Int} (hg : glv g = ns.map (Value.int k)) (hc : ∀ (i : Nat) z, ns[i]? = some z → W.cell? ⟨g, i, none⟩ = some (.int k z)) : RepV no [] W (.rptr ((glv g).map .lit)) (.pointer (some ⟨g, 0, none⟩)) := by
  simp only [RepV]
  refine ⟨g, 0, rfl, .inr ⟨id, fun ⟨i, x, h⟩ => by simp at h, ?_⟩⟩
  rw [RepRow.iff]
  intro i p hp
  rw [hg, List.getElem?_map, Option.map_eq_some_iff] at hp
  obtain ⟨v, hv, rfl⟩ := hp
  rw [List.getElem?_map, Option.map_eq_some_iff] at hv
  obtain ⟨z, hz, rfl⟩ := hv
  exact ⟨_, by rw [Nat.zero_add]; exact hc i z hz, rfl, rfl⟩
end Go.Ab
namespace Go.Proofs.YtipnfcbpbomonaaDoor
open Go Go.Ab
def laidL : List (String × DataW Unit) := [("lightclient/sha.k", Rows.laid_lightclient_sha_k), ("lightclient/sha.initial", Rows.laid_lightclient_sha_initial)]
theorem own : ownKnob Tryd.prog.godebug = none := by kernel_rfl
theorem laidOut : laidOutB Tryd.prog = true := by kernel_rfl
set_option maxRecDepth 100000 in
theorem door_met (os : Os) (args : Array Value) : laidMetH Tryd.prog laidL ((World.doorLaid Tryd.prog 400 os).forCall (fun _ _ => 0) ⟨#[], args, []⟩).memory :=
  laidMetH_of_parts (laidMet_of_run' 8 (by kernel_rfl) (by kernel_rfl)) (by kernel_rfl)
theorem g0 : Tryd.prog.globalNamed "lightclient/sha.k" = some 1 := by kernel_rfl
theorem t0 : (Tryd.prog.globals[1]?).map (·.type) = some 110 := by kernel_rfl
def ns0 : List Int := [1116352408, 1899447441, 3049323471, 3921009573, 961987163, 1508970993, 2453635748, 2870763221, 3624381080, 310598401, 607225278, 1426881987, 1925078388, 2162078206, 2614888103, 3248222580, 3835390401, 4022224774, 264347078, 604807628, 770255983, 1249150122, 1555081692, 1996064986, 2554220882, 2821834349, 2952996808, 3210313671, 3336571891, 3584528711, 113926993, 338241895, 666307205, 773529912, 1294757372, 1396182291, 1695183700, 1986661051, 2177026350, 2456956037, 2730485921, 2820302411, 3259730800, 3345764771, 3516065817, 3600352804, 4094571909, 275423344, 430227734, 506948616, 659060556, 883997877, 958139571, 1322822218, 1537002063, 1747873779, 1955562222, 2024104815, 2227730452, 2361852424, 2428436474, 2756734187, 3204031479, 3329325298]
theorem laid0 : (Rows.laid_lightclient_sha_k : DataW Unit) = .agg (ns0.map fun z => .lit (.int .u32 z)) := rfl
theorem glv0 : glv 1 = ns0.map (Value.int .u32) := rfl
theorem g1 : Tryd.prog.globalNamed "lightclient/sha.initial" = some 0 := by kernel_rfl
theorem t1 : (Tryd.prog.globals[0]?).map (·.type) = some 82 := by kernel_rfl
def ns1 : List Int := [1779033703, 3144134277, 1013904242, 2773480762, 1359893119, 2600822924, 528734635, 1541459225]
theorem laid1 : (Rows.laid_lightclient_sha_initial : DataW Unit) = .agg (ns1.map fun z => .lit (.int .u32 z)) := rfl
theorem glv1 : glv 0 = ns1.map (Value.int .u32) := rfl
/-- What the condition gives a walk. -/
theorem globs_of {W : World} (h : laidMetH Tryd.prog laidL W) : Globs no [] W := by
  rw [MakeChecks.laidMetH_plain _ _ _ (by kernel_rfl)] at h
  obtain ⟨ps, ⟨g0, t0, cs0, f0, p0, q0, hg0, ht0, hv0, hd0, ⟨g1, t1, cs1, f1, p1, q1, hg1, ht1, hv1, hd1, _, _⟩, _⟩, _, _⟩ := h
  obtain rfl := Option.some.inj (Go.Proofs.YtipnfcbpbomonaaDoor.g0.symm.trans hg0)
  obtain rfl := Option.some.inj (Go.Proofs.YtipnfcbpbomonaaDoor.t0.symm.trans ht0)
  rw [laid0] at hd0
  obtain rfl := Option.some.inj (Go.Proofs.YtipnfcbpbomonaaDoor.g1.symm.trans hg1)
  obtain rfl := Option.some.inj (Go.Proofs.YtipnfcbpbomonaaDoor.t1.symm.trans ht1)
  rw [laid1] at hd1
  intro g
  rcases g with _ | _ | g
  · refine glob_one glv1 fun i z hz => ?_
    have := nums_laid Tryd.underlying82 (by kernel_rfl) Tryd.underlying81 hd1 i z hz
    rw [World.var?_cell Go.Proofs.YtipnfcbpbomonaaDoor.g1 hv1 i]
    simpa using this
  · refine glob_one glv0 fun i z hz => ?_
    have := nums_laid Tryd.underlying110 (by kernel_rfl) Tryd.underlying81 hd0 i z hz
    rw [World.var?_cell Go.Proofs.YtipnfcbpbomonaaDoor.g0 hv0 i]
    simpa using this
  · show RepV no [] W (.rptr []) _
    simp only [RepV]
    exact ⟨_, _, rfl, .inl trivial⟩
end Go.Proofs.YtipnfcbpbomonaaDoor
