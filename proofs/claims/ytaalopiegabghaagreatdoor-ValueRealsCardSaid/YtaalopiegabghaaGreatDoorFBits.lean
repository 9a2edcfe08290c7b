/- A float's bits, taken apart: mathematics. No program is named here. -/
import Derived.Test.YtaalopiegabghaaGreatDoorFShortF
import Derived.Test.YtaalopiegabghaaGreatDoorFO
import Derived.Lib.ItoaWalk
namespace Go.Proofs.YtaalopiegabghaaGreatDoor
open Go.RowKit Go.Lib

theorem xor_nat_or (a : Nat) (h : a < 4503599627370496) : a ||| 4503599627370496 = a + 4503599627370496 := by
  have h1 : (a ||| 2 ^ 52) / 2 ^ 52 = 1 := by rw [Nat.or_div_two_pow, Nat.div_eq_of_lt h, Nat.div_self (by decide)]; rfl
  have h2 : (a ||| 2 ^ 52) % 2 ^ 52 = a := by rw [Nat.or_mod_two_pow, Nat.mod_eq_of_lt h, Nat.mod_self]; exact Nat.or_zero a
  have h3 := Nat.div_add_mod (a ||| 2 ^ 52) (2 ^ 52)
  rw [h1, h2] at h3
  have h4 : (a ||| 2 ^ 52) = a + 2 ^ 52 := by omega
  exact h4

/-- What formatting asks of the bits. -/
structure BitsOf (neg : Bool) (k m b : Nat) : Prop where
  sign : ((b : Int) / 9223372036854775808 != 0) = neg
  exp : bits BinOp.and .i64 ((b : Int) / 4503599627370496) 2047 = (1075 - k : Nat)
  man : bits BinOp.and .u64 (b : Int) 4503599627370495 = (m - 4503599627370496 : Nat)
  top : bits BinOp.or .u64 ((m - 4503599627370496 : Nat) : Int) 4503599627370496 = m
  lt : b < 18446744073709551616
theorem bits_of {neg : Bool} {k m : Nat} (hm : 4503599627370496 ≤ m) (hm2 : m < 9007199254740992) (hk : 23 ≤ k) (hk2 : k ≤ 72) : BitsOf neg k m (fword neg (1074 - k) m) := by
  obtain ⟨E, hE⟩ : ∃ E, E = 1074 - k := ⟨_, rfl⟩
  obtain ⟨r, hr⟩ : ∃ r, r = E * 4503599627370496 + m := ⟨_, rfl⟩
  have hb : fword neg E m = (if neg = true then 9223372036854775808 else 0) + r := by
    unfold fword Ieee.Format.word
    rw [d_sign, ← hr]
    cases neg
    · rw [if_neg (by decide), if_neg (by decide), Nat.zero_add]
    · rw [if_pos rfl, if_pos rfl]
  rw [← hE, hb]
  have hr63 : r < 9223372036854775808 := by omega
  have hE2 : 1002 ≤ E ∧ E ≤ 1051 := by omega
  refine ⟨?_, ?_, ?_, ?_, ?_⟩
  · cases neg
    · rw [if_neg (by decide), bne_eq_false_iff_eq]; omega
    · rw [if_pos rfl, bne_iff_ne]; omega
  · have hq : ((if neg = true then 9223372036854775808 else 0) + r) / 4503599627370496 = (if neg = true then 2048 else 0) + (E + 1) := by
      cases neg
      · rw [if_neg (by decide), if_neg (by decide)]; omega
      · rw [if_pos rfl, if_pos rfl]; omega
    rw [show (((if neg = true then 9223372036854775808 else 0) + r : Nat) : Int) / 4503599627370496 = (((if neg = true then 9223372036854775808 else 0) + r) / 4503599627370496 : Nat) by rw [Int.natCast_ediv]; rfl, hq]
    have h := bits_and_i64_nat ((if neg = true then 2048 else 0) + (E + 1)) 2047 (by split <;> omega) (by decide)
    rw [show (2047 : Nat) = 2 ^ 11 - 1 from rfl, Nat.and_two_pow_sub_one_eq_mod] at h
    rw [show ((2 ^ 11 - 1 : Nat) : Int) = 2047 from rfl] at h
    rw [h]
    split <;> omega
  · have h := bits_and_u64_nat ((if neg = true then 9223372036854775808 else 0) + r) 4503599627370495 (by split <;> omega) (by decide)
    rw [show (4503599627370495 : Nat) = 2 ^ 52 - 1 from rfl, Nat.and_two_pow_sub_one_eq_mod] at h
    rw [show ((2 ^ 52 - 1 : Nat) : Int) = 4503599627370495 from rfl] at h
    have e : ((if neg = true then 9223372036854775808 else 0) + r) % 2 ^ 52 = m - 4503599627370496 := by
      show _ % 4503599627370496 = _
      split <;> omega
    rw [h, e]
  · have h := bits_or_u64_nat (m - 4503599627370496) 4503599627370496 (by omega) (by decide)
    rw [xor_nat_or _ (by omega), Nat.sub_add_cancel hm] at h
    exact h
  · split <;> omega
theorem bitLen_53 {m : Nat} (hm : 4503599627370496 ≤ m) (hm2 : m < 9007199254740992) : Lib.bitLen m = 53 := by
  rw [Lib.bitLen_shift 52 m hm (Nat.lt_trans hm2 (by decide)), show m / 2 ^ 52 = 1 from by show m / 4503599627370496 = 1; omega]
  rfl
end Go.Proofs.YtaalopiegabghaaGreatDoor
