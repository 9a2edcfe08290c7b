/- Floats that are nearest to numbers of millionths: which of two is greater, and how they come by a division. No program is named here. -/
import Derived.Test.YtaalopiegabghaaGreatDoorFM
import Ieee.Arith
namespace Go.Proofs.YtaalopiegabghaaGreatDoor
open Ieee

theorem near_low {m k X : Nat} (h : Near m k X) : (2 * m - 1) * 1000000 < X * 2 ^ (k + 1) := by
  obtain ⟨_, h2⟩ := h
  by_cases hm : m = 4503599627370496
  · rw [if_pos hm] at h2
    rw [show 2 ^ (k + 2) = 2 ^ (k + 1) * 2 by rw [Nat.pow_succ], ← Nat.mul_assoc] at h2
    have h3 : (4 * m - 2) * 1000000 < X * 2 ^ (k + 1) * 2 := Nat.lt_of_le_of_lt (Nat.mul_le_mul_right _ (by omega)) h2
    rw [show 4 * m - 2 = (2 * m - 1) * 2 by omega, Nat.mul_right_comm] at h3
    exact Nat.lt_of_mul_lt_mul_right h3
  · rw [if_neg hm] at h2; exact h2

theorem near_lt {m k X m' k' X' : Nat} (h : Near m k X) (h' : Near m' k' X') (hk : 23 ≤ k) (hk' : 23 ≤ k') (hX : X < X') : m * 2 ^ k' < m' * 2 ^ k := by
  have hl := near_low h
  have hu := h'.1
  obtain ⟨c, hc⟩ : ∃ c, c = 1000000 := ⟨_, rfl⟩
  rw [← hc] at hl hu
  have hA : 8 * c ≤ 2 ^ k := Nat.le_trans (by rw [hc]; decide) (Nat.pow_le_pow_right (by decide) hk)
  have hB : 8 * c ≤ 2 ^ k' := Nat.le_trans (by rw [hc]; decide) (Nat.pow_le_pow_right (by decide) hk')
  have hc0 : 0 < c := by rw [hc]; decide
  rw [Nat.pow_succ] at hl hu
  obtain ⟨A, hAe⟩ : ∃ A, A = 2 ^ k := ⟨_, rfl⟩
  obtain ⟨B, hBe⟩ : ∃ B, B = 2 ^ k' := ⟨_, rfl⟩
  rw [← hAe] at hl hA ⊢
  rw [← hBe] at hu hB ⊢
  clear hc hAe hBe h h' hk hk'
  have h1 := Nat.mul_lt_mul_of_pos_right hl (show 0 < B by omega)
  have h2 := Nat.mul_lt_mul_of_pos_right hu (show 0 < A by omega)
  have g1 : 8 * (c * B) ≤ A * B := by rw [← Nat.mul_assoc]; exact Nat.mul_le_mul_right _ hA
  have g2 : 8 * (c * A) ≤ A * B := by rw [← Nat.mul_assoc, Nat.mul_comm A B]; exact Nat.mul_le_mul_right _ hB
  have g3 : (X + 1) * (A * B) ≤ X' * (A * B) := Nat.mul_le_mul_right _ hX
  rw [Nat.add_mul, Nat.one_mul] at g3
  rw [show X * (A * 2) * B = 2 * (X * (A * B)) by simp only [Nat.mul_assoc, Nat.mul_comm, Nat.mul_left_comm]] at h1
  rw [show X' * (B * 2) * A = 2 * (X' * (A * B)) by simp only [Nat.mul_assoc, Nat.mul_comm, Nat.mul_left_comm], show (2 * m' + 1) * c * A = 2 * (m' * A * c) + c * A by rw [Nat.mul_assoc, Nat.add_mul, Nat.one_mul, Nat.mul_assoc, Nat.mul_comm c A, ← Nat.mul_assoc m']] at h2
  rw [show (2 * m - 1) * c * B = 2 * (m * B * c) - c * B by rw [Nat.mul_assoc, Nat.sub_mul, Nat.one_mul, Nat.mul_assoc, Nat.mul_comm c B, ← Nat.mul_assoc m]] at h1
  have h3 : m * B * c < m' * A * c := by omega
  exact Nat.lt_of_mul_lt_mul_right h3

theorem near_same {m k m' k' X : Nat} (h : Near m k X) (h' : Near m' k' X) (hm : 4503599627370496 ≤ m) (hm' : m' < 9007199254740992) : k' ≤ k := by
  refine Nat.le_of_not_lt fun hlt => ?_
  have hu := h'.1
  have h2 := h.2
  have hp : X * 2 ^ (k + 2) ≤ X * 2 ^ (k' + 1) := Nat.mul_le_mul_left _ (Nat.pow_le_pow_right (by decide) (by omega))
  by_cases hb : m = 4503599627370496
  · rw [if_pos hb] at h2
    have h3 := Nat.lt_of_mul_lt_mul_right (Nat.lt_of_lt_of_le h2 (Nat.le_trans hp (Nat.le_of_lt hu)))
    omega
  · have hl := near_low h
    rw [show 2 ^ (k + 2) = 2 ^ (k + 1) * 2 by rw [Nat.pow_succ], ← Nat.mul_assoc] at hp
    have h3 : (2 * m - 1) * 1000000 * 2 < (2 * m' + 1) * 1000000 := by omega
    rw [Nat.mul_right_comm] at h3
    have h4 := Nat.lt_of_mul_lt_mul_right h3
    omega
theorem near_unique {m k m' k' X : Nat} (h : Near m k X) (h' : Near m' k' X) (hm : 4503599627370496 ≤ m) (hm2 : m < 9007199254740992) (hm' : 4503599627370496 ≤ m') (hm2' : m' < 9007199254740992) : m = m' ∧ k = k' := by
  obtain rfl : k = k' := Nat.le_antisymm (near_same h' h hm' hm2) (near_same h h' hm hm2')
  have a := Nat.lt_of_mul_lt_mul_right (Nat.lt_trans (near_low h) h'.1)
  have b := Nat.lt_of_mul_lt_mul_right (Nat.lt_trans (near_low h') h.1)
  exact ⟨by omega, rfl⟩

theorem near_range {m k X : Nat} (h : Near m k X) (hm : 4503599627370496 ≤ m) (hm2 : m < 9007199254740992) (h0 : 0 < X) (h1 : X < 1000000000000000) : 23 ≤ k ∧ k ≤ 72 := by
  constructor
  · refine Nat.le_of_not_lt fun hk => ?_
    have hl := near_low h
    have hp : X * 2 ^ (k + 1) ≤ 1000000000000000 * 8388608 := Nat.mul_le_mul (Nat.le_of_lt h1) (Nat.le_trans (Nat.pow_le_pow_right (by decide) (by omega : k + 1 ≤ 23)) (by decide))
    have h3 : 9007199254740991 * 1000000 ≤ (2 * m - 1) * 1000000 := Nat.mul_le_mul_right _ (by omega)
    have h4 := Nat.lt_of_le_of_lt h3 (Nat.lt_of_lt_of_le hl hp)
    exact absurd h4 (by decide)
  · refine Nat.le_of_not_lt fun hk => ?_
    have hu := h.1
    have hp : 1 * 18889465931478580854784 ≤ X * 2 ^ (k + 1) := Nat.mul_le_mul h0 (Nat.le_trans (by decide) (Nat.pow_le_pow_right (by decide) (by omega : 74 ≤ k + 1)))
    have h3 : (2 * m + 1) * 1000000 ≤ 18014398509481983 * 1000000 := Nat.mul_le_mul_right _ (by omega)
    have h4 := Nat.lt_of_le_of_lt hp (Nat.lt_of_lt_of_le hu h3)
    exact absurd h4 (by decide)
end Go.Proofs.YtaalopiegabghaaGreatDoor
