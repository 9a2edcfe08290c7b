/- The float of a number of millionths. No program is named here. -/
import Derived.Test.YtaalopiegabghaaGreatDoorFV
import Derived.Laws.FloatArith
namespace Go.Proofs.YtaalopiegabghaaGreatDoor
open Ieee

def FltOf (neg : Bool) (X b : Nat) : Prop := (X = 0 ∧ b = double.word neg 0) ∨
  (0 < X ∧ X < 1000000000000000 ∧ ∃ m k, 4503599627370496 ≤ m ∧ m < 9007199254740992 ∧ 23 ≤ k ∧ k ≤ 72 ∧ Near m k X ∧ b = fword neg (1074 - k) m)

theorem xor_top (r : Nat) (h : r < 9223372036854775808) : r ^^^ 9223372036854775808 = 9223372036854775808 + r := by
  have h1 : (r ^^^ 2 ^ 63) / 2 ^ 63 = 1 := by rw [Nat.xor_div_two_pow, Nat.div_eq_of_lt h, Nat.div_self (by decide)]; rfl
  have h2 : (r ^^^ 2 ^ 63) % 2 ^ 63 = r := by rw [Nat.xor_mod_two_pow, Nat.mod_eq_of_lt h, Nat.mod_self]; exact Nat.xor_zero r
  have h3 := Nat.div_add_mod (r ^^^ 2 ^ 63) (2 ^ 63)
  rw [h1, h2, Nat.mul_one] at h3
  exact h3.symm
theorem neg_word (E m : Nat) (h : E * 4503599627370496 + m < 9223372036854775808) : Op.negFloat .f64 (fword false E m) = fword true E m := by
  unfold Op.negFloat fword Format.word
  rw [if_neg (by decide), if_pos rfl, d_sign]
  exact xor_top _ h
theorem float_int (M : Nat) : floatOfInt .f64 (M : Int) = double.write (.number false M 0) := by
  have e : decide ((M : Int) < 0) = false := decide_eq_false (by omega)
  unfold floatOfInt FloatKind.nearest FloatKind.encode FloatKind.format
  simp only [e, Int.natAbs_natCast]

/-- The whole number M as a float, its sign laid on. -/
theorem neg_int (neg : Bool) (M : Nat) (h0 : 0 < M) (hM : M < 1000000000000000) : (if neg = true then Op.negFloat .f64 (floatOfInt .f64 (M : Int)) else floatOfInt .f64 (M : Int)) = double.write (.number neg M 0) := by
  rw [float_int]
  cases neg with
  | false => rw [if_neg (by decide)]
  | true =>
    rw [if_pos rfl]
    obtain ⟨w1, b1, b2, b3⟩ := whole_word false M (by omega) (by omega)
    obtain ⟨w2, _⟩ := whole_word true M (by omega) (by omega)
    rw [w1, w2]
    exact neg_word _ _ (by omega)

theorem flt_whole (neg : Bool) (M : Nat) (h0 : 0 < M) (hX : M * 1000000 < 1000000000000000) : FltOf neg (M * 1000000) (double.write (.number neg M 0)) := by
  have hM : M < 1000000000 := Nat.lt_of_mul_lt_mul_right (a := 1000000) hX
  obtain ⟨w1, b1, b2, b3⟩ := whole_word neg M (by omega) (by omega)
  have e1 : M * 1000000 * 2 ^ (52 - M.log2 + 1) = 2 * (M * 2 ^ (52 - M.log2)) * 1000000 := by
    rw [Nat.pow_succ]; simp only [Nat.mul_assoc, Nat.mul_comm, Nat.mul_left_comm]
  have e2 : M * 1000000 * 2 ^ (52 - M.log2 + 2) = 4 * (M * 2 ^ (52 - M.log2)) * 1000000 := by
    rw [Nat.pow_add]; simp only [Nat.mul_assoc, Nat.mul_comm, Nat.mul_left_comm]
  have hN : Near (M * 2 ^ (52 - M.log2)) (52 - M.log2) (M * 1000000) := by
    refine ⟨?_, ?_⟩
    · rw [e1]; exact Nat.mul_lt_mul_of_pos_right (by omega) (by decide)
    · split
      · rw [e2]; exact Nat.mul_lt_mul_of_pos_right (by omega) (by decide)
      · rw [e1]; exact Nat.mul_lt_mul_of_pos_right (by omega) (by decide)
  obtain ⟨r1, r2⟩ := near_range hN b1 b2 (Nat.mul_pos h0 (by decide)) hX
  refine .inr ⟨Nat.mul_pos h0 (by decide), hX, _, _, b1, b2, r1, r2, hN, ?_⟩
  rw [w1, show 1074 - (52 - M.log2) = 1022 + M.log2 by omega]

/-- A whole number over a power of ten. -/
theorem flt_div (neg : Bool) (M p : Nat) (h0 : 0 < M) (hX : M * 10 ^ (6 - p) < 1000000000000000) (hp0 : 1 ≤ p) (hp : p ≤ 6) : ∃ r, floatBits .quo .f64 (double.write (.number neg M 0)) (double.write (.number false (10 ^ p) 0)) = some r ∧ FltOf neg (M * 10 ^ (6 - p)) r := by
  obtain ⟨m, k, h1, h2, h3, h4, h5, h6⟩ := div_near neg M p h0 hX hp0 hp
  exact ⟨_, h6, .inr ⟨Nat.mul_pos h0 (Nat.pow_pos (by decide)), hX, m, k, h1, h2, h3, h4, h5, rfl⟩⟩
end Go.Proofs.YtaalopiegabghaaGreatDoor
