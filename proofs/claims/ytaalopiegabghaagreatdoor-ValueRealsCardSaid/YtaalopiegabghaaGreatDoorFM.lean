/- The shortest digits of a float64 that is nearest to a number of millionths: mathematics. No program is named here. -/
import Derived.Test.YtaalopiegabghaaGreatDoorFrame
import Derived.Lib.Hide
namespace Go.Proofs.YtaalopiegabghaaGreatDoor

theorem or_one (q : Nat) : q ||| 1 = 2 * (q / 2) + 1 := by
  have h1 : (q ||| 1) / 2 = q / 2 := by rw [Nat.or_div_two]; simp
  have h2 : (q ||| 1) % 2 = 1 := by rw [Nat.or_mod_two_eq_one]; right; rfl
  omega

/-- A quotient by a power of two, its last bit set where something is left. -/
def uq (A n : Nat) : Nat := if A % 2 ^ n = 0 then A / 2 ^ n else A / 2 ^ n ||| 1
theorem uq_lt {A n T : Nat} (h : A < T * 2 ^ n) (hT : T % 2 = 0) : uq A n < T := by
  have hp : 0 < 2 ^ n := Nat.two_pow_pos n
  have hq : A / 2 ^ n < T := Nat.div_lt_of_lt_mul (by rw [Nat.mul_comm]; exact h)
  unfold uq
  split
  · exact hq
  · rw [or_one]; omega
theorem lt_uq {A n T : Nat} (h : T * 2 ^ n < A) (hT : T % 2 = 0) : T < uq A n := by
  have hp : 0 < 2 ^ n := Nat.two_pow_pos n
  have hq : T ≤ A / 2 ^ n := (Nat.le_div_iff_mul_le hp).2 (Nat.le_of_lt h)
  unfold uq
  split
  · rename_i h0
    have hd := Nat.div_add_mod A (2 ^ n)
    rw [h0, Nat.add_zero] at hd
    rcases Nat.lt_or_ge T (A / 2 ^ n) with h1 | h1
    · exact h1
    · have : A / 2 ^ n = T := by omega
      rw [this, Nat.mul_comm] at hd
      omega
  · rw [or_one]; omega

/-- m / 2^k is nearer to X millionths than any other number with as many digits. -/
def Near (m k X : Nat) : Prop := X * 2 ^ (k + 1) < (2 * m + 1) * 1000000 ∧ (if m = 4503599627370496 then (4 * m - 1) * 1000000 < X * 2 ^ (k + 2) else (2 * m - 1) * 1000000 < X * 2 ^ (k + 1))

theorem pow_split (p : Nat) (hp : 7 ≤ p) : 10 ^ p = 10000000 * 10 ^ (p - 7) := by
  obtain ⟨q, rfl⟩ : ∃ q, p = q + 7 := ⟨p - 7, by omega⟩
  rw [Nat.pow_add, Nat.add_sub_cancel, Nat.mul_comm]

/-- The digits that the shortest form begins with: what is between the bounds, and what of it ends in a nought. lo, hi: the bounds as they are scaled, odd: are they themselves outside? -/
theorem short_ten {m k X p odd : Nat} {lo hi D : Nat} (hp : 7 ≤ p) (hm : 4503599627370496 ≤ m) (hodd : odd ≤ 1) (hN : Near m k X) (hD : D = X * 10 ^ (p - 7))
    (hlo : lo = if m = 4503599627370496 then (4 * m - 1) * 512 else (2 * m - 1) * 1024) (hhi : hi = (2 * m + 1) * 1024)
    (hw : if m = 4503599627370496 then 3 * 10 ^ p < 40 * 2 ^ k else 10 ^ p < 10 * 2 ^ k) :
    (uq (lo * 10 ^ p) (k + 9) + odd + 3) / 4 ≤ 10 * D ∧ (uq (hi * 10 ^ p) (k + 9) - odd) / 4 / 10 = D ∧ odd ≤ uq (hi * 10 ^ p) (k + 9) := by
  obtain ⟨h1, h2⟩ := hN
  have hm0 : 0 < m := Nat.lt_of_lt_of_le (by decide) hm
  clear hm
  have e1 : 2 ^ (k + 1) = 2 * 2 ^ k := by rw [Nat.pow_succ]; omega
  have e2 : 2 ^ (k + 2) = 4 * 2 ^ k := by rw [Nat.pow_add]; omega
  have e9 : 2 ^ (k + 9) = 512 * 2 ^ k := by rw [Nat.pow_add]; omega
  have hP := pow_split p hp
  obtain ⟨T, hT⟩ : ∃ T, T = 10 ^ (p - 7) := ⟨_, rfl⟩
  obtain ⟨K, hK⟩ : ∃ K, K = 2 ^ k := ⟨_, rfl⟩
  obtain ⟨c, hc⟩ : ∃ c, c = 1000000 := ⟨_, rfl⟩
  have hT0 : 0 < T := by rw [hT]; exact Nat.pow_pos (by decide)
  rw [← hT] at hP hD
  rw [show 10000000 = 10 * c by rw [hc]] at hP
  rw [← hK] at e1 e2 e9 hw
  rw [e1, ← hc] at h1
  rw [e2, e1, ← hc] at h2
  rw [hP] at hw ⊢
  clear hT hK hc hP e1 e2
  -- the products, named
  obtain ⟨V, hV⟩ : ∃ V, V = c * T := ⟨_, rfl⟩
  obtain ⟨W, hW⟩ : ∃ W, W = m * V := ⟨_, rfl⟩
  obtain ⟨Y, hY⟩ : ∃ Y, Y = X * K * T := ⟨_, rfl⟩
  have hVW : V ≤ W := by rw [hW]; exact Nat.le_mul_of_pos_left _ hm0
  have g1 : Y * 2 < 2 * W + V := by
    have h := Nat.mul_lt_mul_of_pos_right h1 hT0
    rw [show X * (2 * K) * T = Y * 2 by rw [hY]; simp only [Nat.mul_assoc, Nat.mul_comm, Nat.mul_left_comm], show (2 * m + 1) * c * T = 2 * W + V by rw [Nat.mul_assoc, ← hV, Nat.add_mul, Nat.one_mul, Nat.mul_assoc, ← hW]] at h
    exact h
  have bD : ∀ x, x * D * (512 * K) = x * 512 * Y := by
    intro x; rw [hD, hY]; simp only [Nat.mul_assoc, Nat.mul_comm, Nat.mul_left_comm]
  have hiE : hi * (10 * c * T) = (2 * W + V) * 10240 := by
    rw [hhi, Nat.mul_assoc 10, ← hV, show (2 * m + 1) * 1024 * (10 * V) = (2 * m + 1) * V * 10240 by rw [Nat.mul_right_comm (2 * m + 1) 1024, ← Nat.mul_assoc (2 * m + 1) 10 V, Nat.mul_right_comm (2 * m + 1) 10 V, Nat.mul_assoc], Nat.add_mul, Nat.one_mul, Nat.mul_assoc, ← hW]
  have hT40 : 40 * D * 2 ^ (k + 9) = 20480 * Y := by rw [e9, bD]
  have hT80 : (40 * D + 40) * 2 ^ (k + 9) = 20480 * Y + 20480 * K := by
    rw [Nat.add_mul, hT40, e9]; omega
  have c2 : 40 * D < uq (hi * (10 * c * T)) (k + 9) := lt_uq (by rw [hT40, hiE]; omega) (by omega)
  have hwV : ∀ x, x * (10 * c * T) = x * 10 * V := by intro x; rw [hV]; simp only [Nat.mul_assoc]
  by_cases hpow : m = 4503599627370496
  · rw [if_pos hpow] at h2 hlo hw
    clear hpow
    rw [hwV] at hw
    have g2 : 4 * W - V < Y * 4 := by
      have h := Nat.mul_lt_mul_of_pos_right h2 hT0
      rw [show X * (4 * K) * T = Y * 4 by rw [hY]; simp only [Nat.mul_assoc, Nat.mul_comm, Nat.mul_left_comm], show (4 * m - 1) * c * T = 4 * W - V by rw [Nat.mul_assoc, ← hV, Nat.sub_mul, Nat.one_mul, Nat.mul_assoc, ← hW]] at h
      exact h
    have loE : lo * (10 * c * T) = (4 * W - V) * 5120 := by
      rw [hlo, Nat.mul_assoc 10, ← hV, show (4 * m - 1) * 512 * (10 * V) = (4 * m - 1) * V * 5120 by rw [Nat.mul_right_comm (4 * m - 1) 512, ← Nat.mul_assoc (4 * m - 1) 10 V, Nat.mul_right_comm (4 * m - 1) 10 V, Nat.mul_assoc], Nat.sub_mul, Nat.one_mul, Nat.mul_assoc, ← hW]
    have c1 : uq (lo * (10 * c * T)) (k + 9) < 40 * D := uq_lt (by rw [hT40, loE]; omega) (by omega)
    have c3 : uq (hi * (10 * c * T)) (k + 9) < 40 * D + 40 := uq_lt (by rw [hT80, hiE]; omega) (by omega)
    exact ⟨by omega, by omega, by omega⟩
  · rw [if_neg hpow] at h2 hlo hw
    clear hpow
    have hw : 1 * 10 * V < 10 * K := by rw [← hwV, Nat.one_mul]; exact hw
    have g2 : 2 * W - V < Y * 2 := by
      have h := Nat.mul_lt_mul_of_pos_right h2 hT0
      rw [show X * (2 * K) * T = Y * 2 by rw [hY]; simp only [Nat.mul_assoc, Nat.mul_comm, Nat.mul_left_comm], show (2 * m - 1) * c * T = 2 * W - V by rw [Nat.mul_assoc, ← hV, Nat.sub_mul, Nat.one_mul, Nat.mul_assoc, ← hW]] at h
      exact h
    have loE : lo * (10 * c * T) = (2 * W - V) * 10240 := by
      rw [hlo, Nat.mul_assoc 10, ← hV, show (2 * m - 1) * 1024 * (10 * V) = (2 * m - 1) * V * 10240 by rw [Nat.mul_right_comm (2 * m - 1) 1024, ← Nat.mul_assoc (2 * m - 1) 10 V, Nat.mul_right_comm (2 * m - 1) 10 V, Nat.mul_assoc], Nat.sub_mul, Nat.one_mul, Nat.mul_assoc, ← hW]
    have c1 : uq (lo * (10 * c * T)) (k + 9) < 40 * D := uq_lt (by rw [hT40, loE]; omega) (by omega)
    have c3 : uq (hi * (10 * c * T)) (k + 9) < 40 * D + 40 := uq_lt (by rw [hT80, hiE]; omega) (by omega)
    exact ⟨by omega, by omega, by omega⟩
end Go.Proofs.YtaalopiegabghaaGreatDoor
