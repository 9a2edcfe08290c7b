/- How a number of millionths is written: mathematics. No program is named here. -/
import Derived.Test.YtaalopiegabghaaGreatDoorFS
import Derived.Lib.ItoaNum
namespace Go.Proofs.YtaalopiegabghaaGreatDoor
open Go.Lib

/-- A row without the noughts at its end. -/
def trimZ (l : Bs) : Bs := (l.reverse.dropWhile (· == 48)).reverse
theorem trimZ_nil : trimZ [] = [] := rfl
theorem trimZ_zero (a : Bs) : trimZ (a ++ [48]) = trimZ a := by unfold trimZ; rw [List.reverse_append]; rfl
theorem trimZ_ne (a : Bs) {c : UInt8} (h : c ≠ 48) : trimZ (a ++ [c]) = a ++ [c] := by
  unfold trimZ
  rw [List.reverse_append]
  show ((c :: a.reverse).dropWhile (· == 48)).reverse = _
  rw [List.dropWhile_cons, if_neg (by simpa using h), List.reverse_cons, List.reverse_reverse]
theorem trimZ_zeros (a : Bs) : ∀ k, trimZ (a ++ List.replicate k 48) = trimZ a
  | 0 => by rw [List.replicate_zero, List.append_nil]
  | k + 1 => by rw [List.replicate_succ', ← List.append_assoc, trimZ_zero, trimZ_zeros a k]
theorem trimZ_split (l : Bs) : ∃ k, l = trimZ l ++ List.replicate k 48 := by
  obtain ⟨n, hn⟩ : ∃ n, n = l.length := ⟨_, rfl⟩
  induction n generalizing l with
  | zero => exact ⟨0, by rw [List.length_eq_zero_iff.1 hn.symm]; rfl⟩
  | succ n ih =>
    rcases List.eq_nil_or_concat l with rfl | ⟨a, c, rfl⟩
    · exact ⟨0, rfl⟩
    · rw [List.concat_eq_append] at hn ⊢
      by_cases hc : c = 48
      · subst hc
        obtain ⟨k, hk⟩ := ih a (by simp at hn; exact hn)
        rw [trimZ_zero]
        refine ⟨k + 1, ?_⟩
        rw [List.replicate_succ', ← List.append_assoc, ← hk]
      · exact ⟨0, by rw [trimZ_ne _ hc]; simp⟩
theorem trimZ_length (l : Bs) : (trimZ l).length ≤ l.length := by
  obtain ⟨k, hk⟩ := trimZ_split l
  have := congrArg List.length hk
  rw [List.length_append] at this; omega
theorem trimZ_take (l : Bs) : l.take (trimZ l).length = trimZ l := by
  obtain ⟨k, hk⟩ := trimZ_split l
  have h : (trimZ l ++ List.replicate k 48).take (trimZ l).length = trimZ l := List.take_left' rfl
  rw [← hk] at h; exact h
theorem trimZ_trim (l : Bs) : trimZ (trimZ l) = trimZ l := by
  obtain ⟨k, hk⟩ := trimZ_split l
  have := congrArg trimZ hk
  rw [trimZ_zeros] at this; exact this.symm

theorem decDigits_pos (u : Nat) : 0 < (decDigits u).length := by
  rw [decDigits]; split
  · exact Nat.one_pos
  · rw [List.length_append]; exact Nat.lt_of_lt_of_le (Nat.zero_lt_succ _) (Nat.le_add_left _ _)
theorem decDigits_ten {u : Nat} (h : 0 < u) : decDigits (u * 10) = decDigits u ++ [48] := by
  rw [decDigits, dif_neg (by omega), Nat.mul_div_cancel _ (by decide), Nat.mul_mod_left]; rfl
theorem decDigits_pow {u : Nat} (h : 0 < u) : ∀ k, decDigits (u * 10 ^ k) = decDigits u ++ List.replicate k 48
  | 0 => by rw [Nat.pow_zero, Nat.mul_one, List.replicate_zero, List.append_nil]
  | k + 1 => by
    rw [Nat.pow_succ, ← Nat.mul_assoc, decDigits_ten (Nat.mul_pos h (Nat.pow_pos (by decide))), decDigits_pow h k, List.replicate_succ', List.append_assoc]
theorem decDigits_dg (u : Nat) : ∀ c ∈ decDigits u, isDg c := by
  induction u using Nat.strongRecOn with
  | _ u ih =>
    intro c hc
    rw [decDigits] at hc
    have one : ∀ x, x < 10 → isDg (UInt8.ofNat (48 + x)) := fun x hx => by
      unfold isDg; rw [UInt8.toNat_ofNat', Nat.mod_eq_of_lt (by omega)]; omega
    split at hc
    · rename_i h
      obtain rfl := List.mem_singleton.1 hc
      exact one u h
    · rcases List.mem_append.1 hc with h | h
      · exact ih (u / 10) (by omega) c h
      · obtain rfl := List.mem_singleton.1 h
        exact one _ (Nat.mod_lt _ (by decide))

theorem val_decDigits (u : Nat) : val (decDigits u) = u := by
  induction u using Nat.strongRecOn with
  | _ u ih =>
    rw [decDigits]
    have one : ∀ x, x < 10 → (UInt8.ofNat (48 + x)).toNat - 48 = x := fun x hx => by
      rw [UInt8.toNat_ofNat', Nat.mod_eq_of_lt (by omega)]; omega
    split
    · rename_i h
      show 10 * 0 + ((UInt8.ofNat (48 + u)).toNat - 48) = u
      rw [one u h]; omega
    · rw [val_snoc, ih (u / 10) (by omega), one _ (Nat.mod_lt _ (by decide))]; omega
theorem val_zeros : ∀ k, val (List.replicate k 48) = 0
  | 0 => rfl
  | k + 1 => by rw [List.replicate_succ', val_snoc, val_zeros k]; rfl
theorem trimZ_pos {u : Nat} (h : 0 < u) : 0 < (trimZ (decDigits u)).length := by
  rcases Nat.eq_zero_or_pos (trimZ (decDigits u)).length with h0 | h0
  · exfalso
    obtain ⟨k, hk⟩ := trimZ_split (decDigits u)
    rw [List.length_eq_zero_iff.1 h0, List.nil_append] at hk
    have := val_decDigits u
    rw [hk, val_zeros] at this; omega
  · exact h0

/-- Digits, and where the point is, as they are written. -/
def fText (T : Bs) (dp : Int) : Bs := if 0 < dp then T.take dp.toNat ++ (List.replicate (dp.toNat - T.length) 48 ++ (if dp.toNat < T.length then 46 :: T.drop dp.toNat else [])) else 48 :: 46 :: (List.replicate (-dp).toNat 48 ++ T)
/-- A number of millionths, not nought. -/
def fixed (X : Nat) : Bs := fText (trimZ (decDigits X)) ((decDigits X).length - 6)
theorem fixed_of {X p : Nat} (hX : 0 < X) (hp : 7 ≤ p) : fText (trimZ (decDigits (X * 10 ^ (p - 7)))) ((decDigits (X * 10 ^ (p - 7))).length + -((p : Int) - 1)) = fixed X := by
  unfold fixed
  rw [decDigits_pow hX, trimZ_zeros, List.length_append, List.length_replicate]
  congr 1
  omega
end Go.Proofs.YtaalopiegabghaaGreatDoor
