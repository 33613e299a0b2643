import Derived.Test.YtakffanafcidbaaSM2
namespace Go.Ab
open Go Go.Proofs
set_option linter.unusedVariables false
set_option linter.unusedSimpArgs false
set_option maxRecDepth 4000
set_option maxHeartbeats 2000000
theorem leB_cons (n k : Nat) : leB n (k + 1) = UInt8.ofNat n :: leB (n / 256) k := by
  unfold leB
  rw [List.range_succ_eq_map, List.map_cons, List.map_map]
  congr 1
  · simp
  · apply List.map_congr_left
    intro i _
    show UInt8.ofNat (n / 2 ^ (8 * (i + 1))) = UInt8.ofNat (n / 256 / 2 ^ (8 * i))
    rw [Nat.div_div_eq_div_mul, Nat.mul_add, Nat.pow_add, Nat.mul_comm (2 ^ (8 * i))]
theorem leB_leN : ∀ l : List UInt8, leB (leN l) l.length = l
  | [] => rfl
  | b :: r => by
    have hb := b.toNat_lt
    rw [List.length_cons, leB_cons, leN]
    have h1 : (b.toNat + 256 * leN r) / 256 = leN r := by omega
    have h2 : UInt8.ofNat (b.toNat + 256 * leN r) = b := by
      apply UInt8.toNat_inj.1
      simp
    rw [h1, h2, leB_leN r]
theorem leN_one (b : UInt8) : leN [b] = b.toNat := by simp [leN]
theorem sizeM_bad {bs : List UInt8} {a m : Int} (h : ¬ (sizeM bs a m).2.2 = 0) : (((sizeM bs a m).1 : Nat) : Int) = 0 ∧ (sizeM bs a m).2.1 = 0 := by
  unfold sizeM at h ⊢
  split
  · rename_i h1
    rw [if_pos h1] at h
    split
    · exact ⟨rfl, rfl⟩
    · rename_i h2; rw [if_neg h2] at h; exact absurd rfl h
  · exact ⟨rfl, rfl⟩
theorem wide_canon {bs : List UInt8} {k : Nat} {l : Int} {c : UInt8} (hc : bs.getD 0 0 = c) (h0 : 0 < bs.length) (h : (wideM bs 1 k l).2.2 = 0) :
    (wideM bs 1 k l).2.1 = 1 + k ∧ bs.take (1 + k) = c :: leB (wideM bs 1 k l).1 k ∧ l ≤ ((wideM bs 1 k l).1 : Nat) ∧ (wideM bs 1 k l).1 < 2 ^ (8 * k) := by
  unfold wideM at h ⊢
  split at h
  · rename_i hz
    rw [if_pos hz]
    split at h
    · cases h
    · rename_i hl
      rw [if_neg hl]
      obtain ⟨g1, g2, g3⟩ := needM_ok hz
      have hlen : (win bs 1 k).length = k := win_length (by omega)
      refine ⟨rfl, ?_, by show l ≤ ((rdV bs 1 k : Nat) : Int); omega, rdV_lt _ _ _⟩
      have hr : rdV bs 1 k = leN (win bs 1 k) := by unfold rdV; rw [if_pos hz]; rfl
      show bs.take (1 + k) = c :: leB (rdV bs 1 k) k
      have : leB (rdV bs 1 k) k = win bs 1 k := by
        rw [hr]
        have := leB_leN (win bs 1 k)
        rwa [hlen] at this
      rw [this, ← hc]
      have := win_cons (bs := bs) (i := 0) (k := k) h0
      rw [Nat.zero_add] at this
      rw [← this, Nat.add_comm]; rfl
  · rename_i hz; exact absurd h hz
theorem canon {bs : List UInt8} {m : Int} (h : (sizeM bs 0 m).2.2 = 0) : 0 < (sizeM bs 0 m).2.1 ∧ bs.take (sizeM bs 0 m).2.1.toNat = szB (sizeM bs 0 m).1 := by
  have hs : (sizeM bs 0 m).1 = (anyM bs 0).1 ∧ (sizeM bs 0 m).2.1 = (anyM bs 0).2.1 ∧ (anyM bs 0).2.2 = 0 := by
    unfold sizeM at h ⊢
    split at h
    · rename_i h1
      rw [if_pos h1]
      split at h
      · cases h
      · rename_i h2; rw [if_neg h2]; exact ⟨rfl, rfl, h1⟩
    · rename_i h1; exact absurd h h1
  obtain ⟨e1, e2, e3⟩ := hs
  rw [e1, e2]
  clear e1 e2 h
  unfold anyM at e3 ⊢
  split at e3
  · rename_i hz
    rw [if_pos hz]
    obtain ⟨g1, g2, g3⟩ := needM_ok hz
    have h0 : 0 < bs.length := by omega
    have hr : rdV bs 0 1 = (bs.getD 0 0).toNat := by
      unfold rdV
      rw [if_pos (show needM bs.length 0 ((1 : Nat) : Int) = 0 from hz), show ((0 : Int).toNat) = 0 from rfl, win_cons h0, win_zero, leN_one]
    have hb := (bs.getD 0 0).toNat_lt
    have byte : ∀ n : Nat, n < 256 → ((rdV bs 0 1 : Nat) : Int) = n → bs.getD 0 0 = UInt8.ofNat n := by
      intro n hn he
      apply UInt8.toNat_inj.1
      rw [hr] at he
      have e : (UInt8.ofNat n).toNat = n := by simp; omega
      rw [e]; omega
    rw [show (0 : Int) + 1 = 1 from rfl] at e3 ⊢
    split at e3
    · rename_i h1
      rw [if_pos h1]
      obtain ⟨a1, a2, a3, a4⟩ := wide_canon (byte 253 (by omega) h1) h0 e3
      rw [a1]
      refine ⟨by omega, ?_⟩
      rw [show ((1 : Int) + (2 : Nat)).toNat = 1 + 2 from rfl, a2]
      unfold szB
      rw [if_neg (by omega), if_pos (by omega)]; rfl
    · rename_i h1
      rw [if_neg h1]
      split at e3
      · rename_i h2
        rw [if_pos h2]
        obtain ⟨a1, a2, a3, a4⟩ := wide_canon (byte 254 (by omega) h2) h0 e3
        rw [a1]
        refine ⟨by omega, ?_⟩
        rw [show ((1 : Int) + (4 : Nat)).toNat = 1 + 4 from rfl, a2]
        unfold szB
        rw [if_neg (by omega), if_neg (by omega), if_pos (by omega)]; rfl
      · rename_i h2
        rw [if_neg h2]
        split at e3
        · rename_i h3
          rw [if_pos h3]
          obtain ⟨a1, a2, a3, a4⟩ := wide_canon (byte 255 (by omega) h3) h0 e3
          rw [a1]
          refine ⟨by omega, ?_⟩
          rw [show ((1 : Int) + (8 : Nat)).toNat = 1 + 8 from rfl, a2]
          unfold szB
          rw [if_neg (by omega), if_neg (by omega), if_neg (by omega)]; rfl
        · rename_i h3
          rw [if_neg h3]
          refine ⟨by show (0 : Int) < 1; omega, ?_⟩
          show bs.take 1 = szB (rdV bs 0 1)
          have hv : rdV bs 0 1 < 253 := by omega
          unfold szB
          rw [if_pos hv]
          have := leB_leN (win bs 0 1)
          rw [win_length (by omega)] at this
          have e : rdV bs 0 1 = leN (win bs 0 1) := by unfold rdV; rw [if_pos (show needM bs.length 0 ((1 : Nat) : Int) = 0 from hz)]; rfl
          rw [e, this]; rfl
  · rename_i hz; exact absurd e3 hz
def S8 : List PV → Prop × PV
  | [.ro n cs, .lit (.int .u64 m)] => (isB n cs ∧ n ≤ 9223372036854775807 ∧ 0 ≤ m ∧ m < 18446744073709551616, .lit (.bool true))
  | _ => (False, .any)

end Go.Ab
