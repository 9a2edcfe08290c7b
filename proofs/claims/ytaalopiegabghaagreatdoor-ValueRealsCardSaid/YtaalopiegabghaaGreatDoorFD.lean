/- Floats that come by a division of whole numbers by powers of ten: mathematics over the model's own arithmetic. No program is named here. -/
import Derived.Test.YtaalopiegabghaaGreatDoorFN
import Ieee.Arith
namespace Go.Proofs.YtaalopiegabghaaGreatDoor
open Ieee

/-- The bits of a number with 53 digits, its last one at the place E - 1074. -/
def fword (neg : Bool) (E m : Nat) : Nat := double.word neg (E * 4503599627370496 + m)

theorem d_binade : double.binade = 4503599627370496 := by decide
theorem d_inf : double.infRung = 2047 * 4503599627370496 := by decide
theorem d_sign : double.signWeight = 9223372036854775808 := by decide
theorem d_least : double.leastPlace = -1074 := by decide

theorem read_word (neg : Bool) (E m : Nat) (hm : 4503599627370496 ≤ m) (hm2 : m < 9007199254740992) (hE : E + 2 ≤ 2047) : double.read (fword neg E m) = .number neg m ((E : Int) - 1074) := by
  obtain ⟨r, hr⟩ : ∃ r, r = E * 4503599627370496 + m := ⟨_, rfl⟩
  have h63 : r < 9223372036854775808 := by omega
  have hinf : r < 2047 * 4503599627370496 := by omega
  have hn : (fword neg E m / double.signWeight % 2 == 1) = neg := by
    unfold fword Format.word
    rw [d_sign, ← hr]
    cases neg
    · rw [if_neg (by decide), Nat.div_eq_of_lt h63]; rfl
    · rw [if_pos rfl, Nat.add_div_left _ (by decide), Nat.div_eq_of_lt h63]; rfl
  have hg : fword neg E m % double.signWeight = r := by
    unfold fword Format.word
    rw [d_sign, ← hr]
    cases neg
    · rw [if_neg (by decide), Nat.mod_eq_of_lt h63]
    · rw [if_pos rfl, Nat.add_mod_left, Nat.mod_eq_of_lt h63]
  unfold Format.read
  simp only [hn, hg, d_binade, d_inf, d_least]
  rw [if_neg (by omega), if_pos hinf]
  have e1 : 4503599627370496 + r % 4503599627370496 = m := by omega
  have e2 : r / 4503599627370496 = E + 1 := by omega
  rw [e1, e2, Nat.add_sub_cancel]
  congr 1
theorem read_zero (neg : Bool) : double.read (double.word neg 0) = .number neg 0 (-1074) := by cases neg <;> decide

theorem cut_even (neg : Bool) (n drop : Nat) (hd : drop ≤ n.log2 + 2) : Toward.even.cut neg n drop = n / 2 ^ drop + (if 2 ^ drop < 2 * (n % 2 ^ drop) ∨ 2 ^ drop = 2 * (n % 2 ^ drop) ∧ n / 2 ^ drop % 2 = 1 then 1 else 0) := by
  unfold Toward.cut
  simp only [Nat.min_eq_left hd, Nat.one_shiftLeft]
  congr 1
  by_cases h : 2 ^ drop < 2 * (n % 2 ^ drop) ∨ 2 ^ drop = 2 * (n % 2 ^ drop) ∧ n / 2 ^ drop % 2 = 1
  · rw [if_pos h]
    rcases h with h | ⟨h, h2⟩
    · rw [decide_eq_true h]; rfl
    · rw [← h, h2]; simp
  · rw [if_neg h]
    have a : decide (2 ^ drop < 2 * (n % 2 ^ drop)) = false := decide_eq_false fun x => h (.inl x)
    have b : (2 ^ drop == 2 * (n % 2 ^ drop) && n / 2 ^ drop % 2 == 1) = false := by
      rw [Bool.and_eq_false_iff]
      by_cases hx : 2 ^ drop = 2 * (n % 2 ^ drop)
      · right; rw [beq_eq_false_iff_ne]; exact fun y => h (.inr ⟨hx, y⟩)
      · left; rw [beq_eq_false_iff_ne]; exact hx
    rw [a, b]; rfl

/-- A number with 53 digits or more, written. -/
theorem nearest_big (neg : Bool) (mag : Nat) (place : Int) (L : Nat) (hL : mag.log2 = L) (hL2 : 52 ≤ L) (hp : -1074 ≤ place + L - 52) (h0 : mag ≠ 0) :
    double.nearest neg mag place = double.word neg (min ((place + L - 52 + 1074).toNat * 4503599627370496 + Toward.even.cut neg mag (L - 52)) (2047 * 4503599627370496)) := by
  unfold Format.nearest
  rw [if_neg h0]
  have e : max (place + (mag.log2 : Int) - (double.fractionBits : Int)) (-1074) = place + L - 52 := by
    rw [hL]; show max (place + (L : Int) - 52) (-1074) = _; omega
  simp only [d_binade, d_inf, d_least, e]
  rw [show (place - (place + (L : Int) - 52)).toNat = 0 by omega, show (place + (L : Int) - 52 - place).toNat = L - 52 by omega, Nat.shiftLeft_zero]
  congr 2
/-- A whole number of at most 53 digits, written: it is read as it was. -/
theorem whole_word (neg : Bool) (M : Nat) (h0 : M ≠ 0) (hM : M < 9007199254740992) : double.write (.number neg M 0) = fword neg (1022 + M.log2) (M * 2 ^ (52 - M.log2)) ∧ 4503599627370496 ≤ M * 2 ^ (52 - M.log2) ∧ M * 2 ^ (52 - M.log2) < 9007199254740992 ∧ M.log2 ≤ 52 := by
  have hL : M.log2 ≤ 52 := by
    have := Nat.log2_lt h0 |>.2 (show M < 2 ^ 53 by exact hM)
    omega
  have hlo : 2 ^ M.log2 ≤ M := Nat.log2_self_le h0
  have hhi : M < 2 ^ (M.log2 + 1) := Nat.lt_log2_self
  have hb : 4503599627370496 ≤ M * 2 ^ (52 - M.log2) := by
    have := Nat.mul_le_mul_right (2 ^ (52 - M.log2)) hlo
    rw [← Nat.pow_add, show M.log2 + (52 - M.log2) = 52 by omega] at this
    exact this
  have hc : M * 2 ^ (52 - M.log2) < 9007199254740992 := by
    have := Nat.mul_lt_mul_of_pos_right hhi (Nat.two_pow_pos (52 - M.log2))
    rw [← Nat.pow_add, show M.log2 + 1 + (52 - M.log2) = 53 by omega] at this
    exact this
  refine ⟨?_, hb, hc, hL⟩
  unfold Format.write Format.nearest
  simp only
  rw [if_neg h0]
  have e : max ((0 : Int) + (M.log2 : Int) - (double.fractionBits : Int)) (-1074) = (M.log2 : Int) - 52 := by
    show max ((0 : Int) + (M.log2 : Int) - 52) (-1074) = _; omega
  simp only [d_binade, d_inf, d_least, e]
  rw [show ((0 : Int) - ((M.log2 : Int) - 52)).toNat = 52 - M.log2 by omega, show ((M.log2 : Int) - 52 - 0).toNat = 0 by omega, Nat.shiftLeft_eq, cut_even _ _ 0 (by omega)]
  rw [show (M.log2 : Int) - 52 - -1074 = ((1022 + M.log2 : Nat) : Int) by omega, Int.toNat_natCast]
  simp only [Nat.pow_zero, Nat.mod_one, Nat.mul_zero, Nat.div_one]
  rw [if_neg (by omega), Nat.add_zero, Nat.min_eq_left (by omega)]
  rfl
/-- A quotient cut to 53 digits, to the nearest. -/
theorem round_core {A n g mag low rest kept : Nat} (hn : 0 < n) (hmag : mag = 2 * (A / n) + (if A % n = 0 then 0 else 1)) (hg : g = 4 ∨ g = 8) (hlow : low = mag / g) (hrest : rest = mag % g)
    (hkept : kept = low + (if g < 2 * rest ∨ g = 2 * rest ∧ low % 2 = 1 then 1 else 0)) (hno : 4 * A ≠ (2 * low + 1) * (g * n)) (hlow0 : 0 < low) :
    4 * A < (2 * kept + 1) * (g * n) ∧ (2 * kept - 1) * (g * n) < 4 * A ∧ (kept = low → low * (g * n) ≤ 2 * A) := by
  have hA := Nat.div_add_mod A n
  have hr := Nat.mod_lt A hn
  obtain ⟨Q, hQ⟩ : ∃ Q, Q = A / n := ⟨_, rfl⟩
  obtain ⟨r, hr'⟩ : ∃ r, r = A % n := ⟨_, rfl⟩
  rw [← hQ, ← hr'] at hA hmag
  rw [← hr'] at hr
  clear hQ hr'
  obtain ⟨a, ha⟩ : ∃ a, a = low * n := ⟨_, rfl⟩
  have hk : ∀ x, (2 * x + 1) * (g * n) = 2 * (g * (x * n)) + g * n := by intro x; rw [Nat.add_mul, Nat.one_mul]; congr 1; simp only [Nat.mul_assoc, Nat.mul_comm, Nat.mul_left_comm]
  have hl : low * (g * n) = g * a := by rw [ha]; simp only [Nat.mul_left_comm]
  have hkm : (2 * kept - 1) * (g * n) = 2 * (g * (kept * n)) - g * n := by rw [Nat.sub_mul, Nat.one_mul]; congr 1; simp only [Nat.mul_assoc, Nat.mul_comm, Nat.mul_left_comm]
  have hmg : mag = g * low + rest := by rw [hlow, hrest]; exact (Nat.div_add_mod mag g).symm
  have hnQ : ∀ x y : Nat, 2 * Q = x * low + y → 2 * (n * Q) = x * a + n * y := by
    intro x y h
    rw [ha, Nat.mul_left_comm 2 n Q, h, Nat.mul_add]; congr 1; simp only [Nat.mul_comm, Nat.mul_left_comm]
  rw [hk] at hno
  rw [hk, hkm, hl]
  rw [← ha] at hno
  have ha0 : n ≤ a := by rw [ha]; exact Nat.le_mul_of_pos_left _ hlow0
  have hsucc : (low + 1) * n = a + n := by rw [ha, Nat.succ_mul]
  have hr8 : rest < g := by rw [hrest]; exact Nat.mod_lt _ (by omega)
  clear hlow hrest hk hkm hl hlow0
  by_cases hs : r = 0
  · rw [if_pos hs, Nat.add_zero] at hmag
    subst hs
    rcases hg with rfl | rfl
    · rcases (by omega : rest = 0 ∨ rest = 2) with rfl | rfl
      · have h2 := hnQ 4 0 (by omega)
        rw [if_neg (by omega), Nat.add_zero] at hkept
        subst hkept
        rw [← ha]
        exact ⟨by omega, by omega, by omega⟩
      · have h2 := hnQ 4 2 (by omega)
        exact absurd (show 4 * A = 2 * (4 * a) + 4 * n by omega) hno
    · rcases (by omega : rest = 0 ∨ rest = 2 ∨ rest = 4 ∨ rest = 6) with rfl | rfl | rfl | rfl
      · have h2 := hnQ 8 0 (by omega)
        rw [if_neg (by omega), Nat.add_zero] at hkept
        subst hkept
        rw [← ha]
        exact ⟨by omega, by omega, by omega⟩
      · have h2 := hnQ 8 2 (by omega)
        rw [if_neg (by omega), Nat.add_zero] at hkept
        subst hkept
        rw [← ha]
        exact ⟨by omega, by omega, by omega⟩
      · have h2 := hnQ 8 4 (by omega)
        exact absurd (show 4 * A = 2 * (8 * a) + 8 * n by omega) hno
      · have h2 := hnQ 8 6 (by omega)
        rw [if_pos (by omega)] at hkept
        subst hkept
        rw [hsucc]
        exact ⟨by omega, by omega, by omega⟩
  · rw [if_neg hs] at hmag
    rcases hg with rfl | rfl
    · rcases (by omega : rest = 1 ∨ rest = 3) with rfl | rfl
      · have h2 := hnQ 4 0 (by omega)
        rw [if_neg (by omega), Nat.add_zero] at hkept
        subst hkept
        rw [← ha]
        exact ⟨by omega, by omega, by omega⟩
      · have h2 := hnQ 4 2 (by omega)
        rw [if_pos (by omega)] at hkept
        subst hkept
        rw [hsucc]
        exact ⟨by omega, by omega, by omega⟩
    · rcases (by omega : rest = 1 ∨ rest = 3 ∨ rest = 5 ∨ rest = 7) with rfl | rfl | rfl | rfl
      · have h2 := hnQ 8 0 (by omega)
        rw [if_neg (by omega), Nat.add_zero] at hkept
        subst hkept
        rw [← ha]
        exact ⟨by omega, by omega, by omega⟩
      · have h2 := hnQ 8 2 (by omega)
        rw [if_neg (by omega), Nat.add_zero] at hkept
        subst hkept
        rw [← ha]
        exact ⟨by omega, by omega, by omega⟩
      · have h2 := hnQ 8 4 (by omega)
        rw [if_pos (by omega)] at hkept
        subst hkept
        rw [hsucc]
        exact ⟨by omega, by omega, by omega⟩
      · have h2 := hnQ 8 6 (by omega)
        rw [if_pos (by omega)] at hkept
        subst hkept
        rw [hsucc]
        exact ⟨by omega, by omega, by omega⟩
end Go.Proofs.YtaalopiegabghaaGreatDoor
