/- A whole number, divided by a power of ten in floats: the float that is nearest. No program is named here. -/
import Derived.Test.YtaalopiegabghaaGreatDoorFD
namespace Go.Proofs.YtaalopiegabghaaGreatDoor
open Ieee

theorem log_52 {m : Nat} (h : 4503599627370496 ≤ m) (h2 : m < 9007199254740992) : m.log2 = 52 := by
  have a : m ≠ 0 := by omega
  exact (Nat.log2_eq_iff a).2 ⟨h, h2⟩

theorem ten_log {p : Nat} (h0 : 1 ≤ p) (h : p ≤ 6) : 3 ≤ (10 ^ p).log2 ∧ (10 ^ p).log2 ≤ 19 := by
  rcases (by omega : p = 1 ∨ p = 2 ∨ p = 3 ∨ p = 4 ∨ p = 5 ∨ p = 6) with rfl | rfl | rfl | rfl | rfl | rfl <;> decide

/-- From the quotient's digits to the number of millionths. -/
theorem near_of {M p L L' d kept k : Nat} (hp : p ≤ 6) (hL : L ≤ 49) (hL' : L' ≤ 52) (hk : k + L + d = 55 + L') :
    (4 * (M * 2 ^ (52 - L) * 2 ^ 54) < (2 * kept + 1) * (2 ^ d * (10 ^ p * 2 ^ (52 - L'))) ↔ M * 10 ^ (6 - p) * 2 ^ (k + 1) < (2 * kept + 1) * 1000000) ∧
    ((2 * kept - 1) * (2 ^ d * (10 ^ p * 2 ^ (52 - L'))) < 4 * (M * 2 ^ (52 - L) * 2 ^ 54) ↔ (2 * kept - 1) * 1000000 < M * 10 ^ (6 - p) * 2 ^ (k + 1)) ∧
    (kept * (2 ^ d * (10 ^ p * 2 ^ (52 - L'))) ≤ 2 * (M * 2 ^ (52 - L) * 2 ^ 54) ↔ 2 * kept * 1000000 ≤ M * 10 ^ (6 - p) * 2 ^ (k + 1)) ∧
    (4 * (M * 2 ^ (52 - L) * 2 ^ 54) = (2 * kept + 1) * (2 ^ d * (10 ^ p * 2 ^ (52 - L'))) → M * 10 ^ (6 - p) * 2 ^ (k + 1) = (2 * kept + 1) * 1000000) := by
  obtain ⟨c, hc⟩ : ∃ c, c = 2 ^ (d + (52 - L')) := ⟨_, rfl⟩
  obtain ⟨t, ht⟩ : ∃ t, t = 10 ^ (6 - p) := ⟨_, rfl⟩
  have hc0 : 0 < c := by rw [hc]; exact Nat.two_pow_pos _
  have ht0 : 0 < t := by rw [ht]; exact Nat.pow_pos (by decide)
  have e6 : 10 ^ p * t = 1000000 := by rw [ht, ← Nat.pow_add, show p + (6 - p) = 6 by omega]
  have eA : 4 * (M * 2 ^ (52 - L) * 2 ^ 54) * t = M * t * 2 ^ (k + 1) * c := by
    have e : 2 ^ (k + 1) * c = 4 * (2 ^ (52 - L) * 2 ^ 54) := by
      rw [hc, ← Nat.pow_add, ← Nat.pow_add, show (4 : Nat) = 2 ^ 2 from rfl, ← Nat.pow_add]
      congr 1; omega
    rw [Nat.mul_assoc (M * t), e]
    simp only [Nat.mul_assoc, Nat.mul_comm, Nat.mul_left_comm]
  have eB : ∀ x : Nat, x * (2 ^ d * (10 ^ p * 2 ^ (52 - L'))) * t = x * 1000000 * c := by
    intro x
    rw [← e6, hc, Nat.pow_add]
    simp only [Nat.mul_assoc, Nat.mul_comm, Nat.mul_left_comm]
  rw [← ht]
  refine ⟨⟨fun h => ?_, fun h => ?_⟩, ⟨fun h => ?_, fun h => ?_⟩, ⟨fun h => ?_, fun h => ?_⟩, fun h => ?_⟩
  · have := Nat.mul_lt_mul_of_pos_right h ht0; rw [eA, eB] at this; exact Nat.lt_of_mul_lt_mul_right this
  · have := Nat.mul_lt_mul_of_pos_right h hc0; rw [← eA, ← eB] at this; exact Nat.lt_of_mul_lt_mul_right this
  · have := Nat.mul_lt_mul_of_pos_right h ht0; rw [eA, eB] at this; exact Nat.lt_of_mul_lt_mul_right this
  · have := Nat.mul_lt_mul_of_pos_right h hc0; rw [← eA, ← eB] at this; exact Nat.lt_of_mul_lt_mul_right this
  · have h2 := Nat.mul_le_mul_right t (Nat.mul_le_mul_left 2 h)
    rw [← Nat.mul_assoc 2 kept, eB, show 2 * (2 * (M * 2 ^ (52 - L) * 2 ^ 54)) = 4 * (M * 2 ^ (52 - L) * 2 ^ 54) by omega, eA] at h2
    exact Nat.le_of_mul_le_mul_right h2 hc0
  · have h2 := Nat.mul_le_mul_right c h
    rw [← eA, ← eB] at h2
    have h3 := Nat.le_of_mul_le_mul_right h2 ht0
    rw [Nat.mul_assoc 2 kept] at h3
    omega
  · have := congrArg (fun y => y * t) h
    have : 4 * (M * 2 ^ (52 - L) * 2 ^ 54) * t = (2 * kept + 1) * (2 ^ d * (10 ^ p * 2 ^ (52 - L'))) * t := this
    rw [eA, eB] at this
    exact Nat.eq_of_mul_eq_mul_right hc0 this

theorem odd_no {X k q : Nat} (hk : 6 ≤ k) : X * 2 ^ (k + 1) ≠ (2 * q + 1) * 1000000 := by
  intro h
  have e : 2 ^ (k + 1) = 128 * 2 ^ (k - 6) := by rw [show (128 : Nat) = 2 ^ 7 from rfl, ← Nat.pow_add]; congr 1; omega
  rw [e, Nat.mul_left_comm] at h
  obtain ⟨y, hy⟩ : ∃ y, y = X * 2 ^ (k - 6) := ⟨_, rfl⟩
  rw [← hy] at h
  have e2 : 128 * y = 2 * y * 64 := by omega
  have h : 2 * y * 64 = (2 * q + 1) * 15625 * 64 := by rw [← e2, h, Nat.mul_assoc]
  have h2 := Nat.eq_of_mul_eq_mul_right (show 0 < 64 by decide) h
  omega

theorem word_carry (neg : Bool) (E : Nat) : fword neg E 9007199254740992 = fword neg (E + 1) 4503599627370496 := by
  have e : E * 4503599627370496 + 9007199254740992 = (E + 1) * 4503599627370496 + 4503599627370496 := by omega
  unfold fword; rw [e]

theorem div_near (neg : Bool) (M p : Nat) (hM0 : 0 < M) (hX : M * 10 ^ (6 - p) < 1000000000000000) (hp0 : 1 ≤ p) (hp : p ≤ 6) :
    ∃ m k, 4503599627370496 ≤ m ∧ m < 9007199254740992 ∧ 23 ≤ k ∧ k ≤ 72 ∧ Near m k (M * 10 ^ (6 - p)) ∧ double.div (double.write (.number neg M 0)) (double.write (.number false (10 ^ p) 0)) = some (fword neg (1074 - k) m) := by
  have hM : M < 1000000000000000 := Nat.lt_of_le_of_lt (Nat.le_mul_of_pos_right _ (Nat.pow_pos (by decide))) hX
  obtain ⟨w1, b1, b2, b3⟩ := whole_word neg M (by omega) (by omega)
  have ht6 : 10 ^ p ≤ 1000000 := Nat.le_trans (Nat.pow_le_pow_right (by decide) hp) (by decide)
  have ht0 : 0 < 10 ^ p := Nat.pow_pos (by decide)
  obtain ⟨w2, c1, c2, c3⟩ := whole_word false (10 ^ p) (by omega) (by omega)
  obtain ⟨tl1, tl2⟩ := ten_log hp0 hp
  have hL49 : M.log2 ≤ 49 := by
    have := (Nat.log2_lt (show M ≠ 0 by omega)).2 (show M < 2 ^ 50 from Nat.lt_trans hM (by decide))
    omega
  rw [w1, w2]
  have hr1 := read_word neg (1022 + M.log2) _ b1 b2 (by omega)
  have hr2 := read_word false (1022 + (10 ^ p).log2) _ c1 c2 (by omega)
  have l1 := log_52 b1 b2
  have l2 := log_52 c1 c2
  obtain ⟨L, hL⟩ : ∃ L, L = M.log2 := ⟨_, rfl⟩
  obtain ⟨L', hL'⟩ : ∃ L', L' = (10 ^ p).log2 := ⟨_, rfl⟩
  rw [← hL] at hr1 l1 b1 b2 b3 hL49 ⊢
  rw [← hL'] at hr2 l2 c1 c2 c3 tl1 tl2 ⊢
  obtain ⟨x, hx⟩ : ∃ x, x = M * 2 ^ (52 - L) := ⟨_, rfl⟩
  obtain ⟨n, hn⟩ : ∃ n, n = 10 ^ p * 2 ^ (52 - L') := ⟨_, rfl⟩
  rw [← hx] at hr1 l1 b1 b2 ⊢
  rw [← hn] at hr2 l2 c1 c2 ⊢
  have hdiv : double.div (fword neg (1022 + L) x) (fword false (1022 + L') n) = some (double.nearest neg (2 * (x * 2 ^ 54 / n) + (if x * 2 ^ 54 % n = 0 then 0 else 1)) ((L : Int) - L' - 55)) := by
    unfold Format.div
    rw [hr1, hr2]
    unfold Datum.quotient
    simp only
    rw [if_neg (show ¬ n = 0 by omega), l1, l2]
    simp only [Option.map_some, Format.write]
    rw [show double.fractionBits + 2 + 52 - 52 = 54 from rfl, Nat.shiftLeft_eq]
    have hs : (x * 2 ^ 54 % n != 0).toNat = if x * 2 ^ 54 % n = 0 then 0 else 1 := by
      by_cases hz : x * 2 ^ 54 % n = 0
      · rw [hz]; rfl
      · rw [if_neg hz, (by simpa using hz : (x * 2 ^ 54 % n != 0) = true)]; rfl
    rw [hs, Bool.xor_false, show ((1022 + L : Nat) : Int) - 1074 - (((1022 + L' : Nat) : Int) - 1074) - ((54 : Nat) : Int) - 1 = (L : Int) - L' - 55 by omega]
  rw [hdiv]
  obtain ⟨A, hA⟩ : ∃ A, A = x * 2 ^ 54 := ⟨_, rfl⟩
  obtain ⟨mag, hmag⟩ : ∃ mag, mag = 2 * (A / n) + (if A % n = 0 then 0 else 1) := ⟨_, rfl⟩
  rw [← hA, ← hmag]
  have hn0 : 0 < n := by omega
  have hA1 : 9007199254740992 * n < A + n := by
    have h1 : 4503599627370496 * 2 ^ 54 ≤ A := by rw [hA]; exact Nat.mul_le_mul_right _ b1
    have h2 : 9007199254740992 * n ≤ 9007199254740992 * 9007199254740991 := Nat.mul_le_mul_left _ (by omega)
    have h3 : (9007199254740992 * 9007199254740991 : Nat) ≤ 4503599627370496 * 2 ^ 54 := by decide
    omega
  have hQ1 : 9007199254740992 ≤ A / n := by
    rw [Nat.le_div_iff_mul_le hn0]
    have h1 : 4503599627370496 * 2 ^ 54 ≤ A := by rw [hA]; exact Nat.mul_le_mul_right _ b1
    have h2 : 9007199254740992 * n ≤ 9007199254740992 * 9007199254740991 := Nat.mul_le_mul_left _ (by omega)
    exact Nat.le_trans h2 (Nat.le_trans (by decide) h1)
  have hQ2 : A / n < 36028797018963968 := by
    refine Nat.div_lt_of_lt_mul ?_
    have h1 : A < 9007199254740992 * 2 ^ 54 := by rw [hA]; exact Nat.mul_lt_mul_of_pos_right b2 (Nat.two_pow_pos _)
    have h2 : 4503599627370496 * 36028797018963968 ≤ n * 36028797018963968 := Nat.mul_le_mul_right _ c1
    exact Nat.lt_of_lt_of_le h1 (Nat.le_trans (by decide) h2)
  have hm1 : 2 ^ 54 ≤ mag := by rw [hmag]; show 18014398509481984 ≤ _; omega
  have hm2 : mag < 2 ^ 56 := by rw [hmag]; show _ < 72057594037927936; split <;> omega
  have hm0 : mag ≠ 0 := by have := Nat.two_pow_pos 54; omega
  obtain ⟨d, hd, hlg⟩ : ∃ d, (d = 2 ∨ d = 3) ∧ mag.log2 = 52 + d := by
    by_cases h : mag < 2 ^ 55
    · exact ⟨2, .inl rfl, (Nat.log2_eq_iff hm0).2 ⟨hm1, h⟩⟩
    · exact ⟨3, .inr rfl, (Nat.log2_eq_iff hm0).2 ⟨by omega, hm2⟩⟩
  have hlo := Nat.log2_self_le hm0
  have hhi := @Nat.lt_log2_self mag
  rw [hlg] at hlo hhi
  obtain ⟨k, hk⟩ : ∃ k, k + L + d = 55 + L' := ⟨55 + L' - L - d, by omega⟩
  have hk6 : 6 ≤ k := by omega
  obtain ⟨low, hlow⟩ : ∃ low, low = mag / 2 ^ d := ⟨_, rfl⟩
  have hlb : 4503599627370496 ≤ low ∧ low < 9007199254740992 := by
    rw [hlow]
    have hp := Nat.two_pow_pos d
    rw [Nat.pow_add] at hlo
    rw [show 52 + d + 1 = 53 + d by omega, Nat.pow_add] at hhi
    exact ⟨(Nat.le_div_iff_mul_le hp).2 hlo, Nat.div_lt_of_lt_mul (by rw [Nat.mul_comm]; exact hhi)⟩
  obtain ⟨kept, hkept⟩ : ∃ kept, kept = low + (if 2 ^ d < 2 * (mag % 2 ^ d) ∨ 2 ^ d = 2 * (mag % 2 ^ d) ∧ low % 2 = 1 then 1 else 0) := ⟨_, rfl⟩
  obtain ⟨f1, f2, f3, f4⟩ := near_of (M := M) (kept := low) hp hL49 c3 hk
  rw [← hx, ← hn, ← hA] at f4
  have hcore := round_core (g := 2 ^ d) hn0 hmag (by rcases hd with rfl | rfl; exact .inl rfl; exact .inr rfl) hlow rfl hkept (fun h => odd_no hk6 (f4 h)) (by omega)
  obtain ⟨g1, g2, g3, g4⟩ := near_of (M := M) (kept := kept) hp hL49 c3 hk
  rw [← hx, ← hn, ← hA] at g1 g2 g3
  obtain ⟨q1, q2, q3⟩ := hcore
  have n1 := g1.1 q1
  have n2 := g2.1 q2
  have hkb : kept = low ∨ kept = low + 1 := by rw [hkept]; split <;> omega
  have hwd : double.nearest neg mag ((L : Int) - L' - 55) = double.word neg (min ((1074 - k) * 4503599627370496 + kept) (2047 * 4503599627370496)) := by
    rw [nearest_big neg mag _ (52 + d) hlg (by omega) (by omega) hm0, Nat.add_sub_cancel_left, cut_even _ _ _ (by omega), ← hlow, ← hkept, show ((L : Int) - L' - 55 + ((52 + d : Nat) : Int) - 52 + 1074).toNat = 1074 - k by omega]
  rw [hwd]
  by_cases hc : kept = 9007199254740992
  · -- carried into the next binade
    have hN : Near 4503599627370496 (k - 1) (M * 10 ^ (6 - p)) := by
      rw [hc] at n1 n2
      have e : 2 ^ (k + 1) = 2 ^ (k - 1 + 1) * 2 := by rw [← Nat.pow_succ]; congr 1; omega
      refine ⟨?_, ?_⟩
      · rw [e, ← Nat.mul_assoc] at n1
        have n3 : M * 10 ^ (6 - p) * 2 ^ (k - 1 + 1) * 2 < (2 * 4503599627370496 + 1) * 1000000 * 2 := Nat.lt_of_lt_of_le n1 (by decide)
        exact Nat.lt_of_mul_lt_mul_right n3
      · rw [if_pos rfl, show k - 1 + 2 = k + 1 by omega]; exact n2
    obtain ⟨r1, r2⟩ := near_range hN (Nat.le_refl _) (by decide) (Nat.mul_pos hM0 (Nat.pow_pos (by decide))) hX
    refine ⟨4503599627370496, k - 1, Nat.le_refl _, by decide, r1, r2, hN, ?_⟩
    have hmin : min ((1074 - k) * 4503599627370496 + 9007199254740992) (2047 * 4503599627370496) = (1074 - k) * 4503599627370496 + 9007199254740992 := Nat.min_eq_left (by omega)
    rw [hc, hmin]
    have hf : double.word neg ((1074 - k) * 4503599627370496 + 9007199254740992) = fword neg (1074 - k) 9007199254740992 := by unfold fword; rfl
    rw [hf, word_carry, show 1074 - k + 1 = 1074 - (k - 1) by omega]
  · have hkl : 4503599627370496 ≤ kept ∧ kept < 9007199254740992 := by omega
    have hN : Near kept k (M * 10 ^ (6 - p)) := by
      refine ⟨n1, ?_⟩
      by_cases hb : kept = 4503599627370496
      · rw [if_pos hb]
        have h3 := g3.1 (by have := q3 (by omega); rw [show kept = low by omega]; exact this)
        rw [show 2 ^ (k + 2) = 2 ^ (k + 1) * 2 by rw [Nat.pow_succ], ← Nat.mul_assoc]
        have h4 := Nat.mul_le_mul_right 2 h3
        have h5 : (4 * kept - 1) * 1000000 < 2 * kept * 2 * 1000000 := Nat.mul_lt_mul_of_pos_right (by omega) (by decide)
        rw [Nat.mul_right_comm (2 * kept) 2] at h5
        exact Nat.lt_of_lt_of_le h5 h4
      · rw [if_neg hb]; exact n2
    obtain ⟨r1, r2⟩ := near_range hN hkl.1 hkl.2 (Nat.mul_pos hM0 (Nat.pow_pos (by decide))) hX
    refine ⟨kept, k, hkl.1, hkl.2, r1, r2, hN, ?_⟩
    rw [Nat.min_eq_left (by omega)]; rfl
end Go.Proofs.YtaalopiegabghaaGreatDoor
