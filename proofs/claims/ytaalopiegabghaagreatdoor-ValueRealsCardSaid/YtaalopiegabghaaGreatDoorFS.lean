/- Powers of ten and of two beside each other, at the exponents of numbers of millionths. No program is named here. -/
import Derived.Test.YtaalopiegabghaaGreatDoorFW
namespace Go.Proofs.YtaalopiegabghaaGreatDoor

def pN (k : Nat) : Nat := (k * 78913 + 262143) / 262144
def pS (k : Nat) : Nat := (k * 631305 + 261663 + 2097151) / 2097152
def l2 (p : Nat) : Nat := p * 108853 / 32768
def tenHi (p : Nat) : Nat := 10 ^ p * 9223372036854775808 / 2 ^ l2 p

theorem ten_hi {p : Nat} (h0 : 7 ≤ p) (h : p ≤ 22) : tenHi p * 2 ^ l2 p = 10 ^ p * 2 ^ 63 ∧ tenHi p < 18446744073709551616 := by
  have H : ∀ p, p < 23 → 7 ≤ p → tenHi p * 2 ^ l2 p = 10 ^ p * 2 ^ 63 ∧ tenHi p < 18446744073709551616 := by decide +kernel
  exact H p (by omega) h0
theorem near_p {k : Nat} (h0 : 23 ≤ k) (h : k ≤ 72) : 7 ≤ pN k ∧ pN k ≤ 22 ∧ 10 ^ pN k < 10 * 2 ^ k ∧ l2 (pN k) + 5 ≤ k + 8 ∧ k + 8 ≤ l2 (pN k) + 8 := by
  have H : ∀ k, k < 73 → 23 ≤ k → 7 ≤ pN k ∧ pN k ≤ 22 ∧ 10 ^ pN k < 10 * 2 ^ k ∧ l2 (pN k) + 5 ≤ k + 8 ∧ k + 8 ≤ l2 (pN k) + 8 := by decide +kernel
  exact H k (by omega) h0
theorem near_s {k : Nat} (h0 : 23 ≤ k) (h : k ≤ 72) : 7 ≤ pS k ∧ pS k ≤ 22 ∧ 3 * 10 ^ pS k < 40 * 2 ^ k ∧ l2 (pS k) + 4 ≤ k + 8 ∧ k + 8 ≤ l2 (pS k) + 8 := by
  have H : ∀ k, k < 73 → 23 ≤ k → 7 ≤ pS k ∧ pS k ≤ 22 ∧ 3 * 10 ^ pS k < 40 * 2 ^ k ∧ l2 (pS k) + 4 ≤ k + 8 ∧ k + 8 ≤ l2 (pS k) + 8 := by decide +kernel
  exact H k (by omega) h0

theorem uq_shift (A n t : Nat) : uq (A * 2 ^ t) (n + t) = uq A n := by
  have h1 : A * 2 ^ t / 2 ^ (n + t) = A / 2 ^ n := by rw [Nat.pow_add, Nat.mul_div_mul_right _ _ (Nat.two_pow_pos t)]
  have h2 : A * 2 ^ t % 2 ^ (n + t) = A % 2 ^ n * 2 ^ t := by rw [Nat.pow_add, Nat.mul_mod_mul_right]
  unfold uq
  rw [h1, h2]
  by_cases h : A % 2 ^ n = 0
  · rw [if_pos h, h, Nat.zero_mul, if_pos rfl]
  · rw [if_neg h, if_neg (fun e => h ((Nat.mul_eq_zero.1 e).resolve_right (Nat.ne_of_gt (Nat.two_pow_pos t))))]
/-- What is scaled by the table's number is scaled by the power of ten. -/
theorem uq_ten {x p k s : Nat} (h0 : 7 ≤ p) (h : p ≤ 22) (hs : k + 8 = l2 p + s) : uq (x * tenHi p) (64 + s) = uq (x * 10 ^ p) (k + 9) := by
  rw [← uq_shift _ _ (l2 p), Nat.mul_assoc, (ten_hi h0 h).1, ← Nat.mul_assoc, show 64 + s + l2 p = k + 9 + 63 by omega, uq_shift]

/-- The product's halves, shifted: what is asked of them. -/
theorem uq_parts (P s : Nat) (he : P % 2 = 0) : uq P (64 + s) = if P / 18446744073709551616 % 2 ^ s = 0 then P / 18446744073709551616 / 2 ^ s ||| (if 1 < P % 18446744073709551616 then 1 else 0) else P / 18446744073709551616 / 2 ^ s ||| 1 := by
  have e : 2 ^ (64 + s) = 18446744073709551616 * 2 ^ s := by rw [Nat.pow_add]
  have h1 : P / 2 ^ (64 + s) = P / 18446744073709551616 / 2 ^ s := by rw [e, Nat.div_div_eq_div_mul]
  have h2 : P % 2 ^ (64 + s) = P % 18446744073709551616 + 18446744073709551616 * (P / 18446744073709551616 % 2 ^ s) := by rw [e, Nat.mod_mul]
  unfold uq
  rw [h1, h2]
  by_cases hz : P / 18446744073709551616 % 2 ^ s = 0
  · rw [if_pos hz, hz, Nat.mul_zero, Nat.add_zero]
    by_cases hm : P % 18446744073709551616 = 0
    · rw [if_pos hm, if_neg (by omega), Nat.or_zero]
    · rw [if_neg hm, if_pos (by omega)]
  · rw [if_neg hz, if_neg (by omega)]

/-- The shortest digits: D, its last place. -/
def shortP (m k : Nat) : Nat := if m = 4503599627370496 then pS k else pN k
theorem shortP_range {m k : Nat} (h0 : 23 ≤ k) (h : k ≤ 72) : 7 ≤ shortP m k ∧ shortP m k ≤ 22 ∧ l2 (shortP m k) + 4 ≤ k + 8 ∧ k + 8 ≤ l2 (shortP m k) + 8 := by
  unfold shortP
  split
  · have := near_s h0 h; omega
  · have := near_p h0 h; omega
theorem short_all {m k X : Nat} (hm : 4503599627370496 ≤ m) (hk0 : 23 ≤ k) (hk : k ≤ 72) (hN : Near m k X) {lo hi odd : Nat} (hodd : odd ≤ 1)
    (hlo : lo = if m = 4503599627370496 then (4 * m - 1) * 512 else (2 * m - 1) * 1024) (hhi : hi = (2 * m + 1) * 1024) :
    (uq (lo * 10 ^ shortP m k) (k + 9) + odd + 3) / 4 ≤ 10 * (X * 10 ^ (shortP m k - 7)) ∧ (uq (hi * 10 ^ shortP m k) (k + 9) - odd) / 4 / 10 = X * 10 ^ (shortP m k - 7) ∧ odd ≤ uq (hi * 10 ^ shortP m k) (k + 9) := by
  refine short_ten (shortP_range hk0 hk).1 hm hodd hN rfl hlo hhi ?_
  unfold shortP
  by_cases h : m = 4503599627370496
  · rw [if_pos h, if_pos h]; exact (near_s hk0 hk).2.2.1
  · rw [if_neg h, if_neg h]; exact (near_p hk0 hk).2.2.1
end Go.Proofs.YtaalopiegabghaaGreatDoor
