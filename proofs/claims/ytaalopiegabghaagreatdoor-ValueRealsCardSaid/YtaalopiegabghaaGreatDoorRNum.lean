/- Numbers in their order, and as floats: mathematics. No program is named here. -/
import Derived.Test.YtaalopiegabghaaGreatDoorFW
namespace Go.Proofs.YtaalopiegabghaaGreatDoor
open Ieee

/-- What a text may say. -/
inductive Num where
  | nan
  | inf (neg : Bool)
  | fin (neg : Bool) (X : Nat)
/-- Where it stands. -/
def Num.key : Num → Int
  | .nan => 2000000000000000
  | .inf true => -1000000000000000
  | .inf false => 1000000000000000
  | .fin true X => -(X : Int)
  | .fin false X => X
def Num.cmp (a b : Num) : Int := if a.key < b.key then -1 else if b.key < a.key then 1 else 0
def FloatIs : Num → Nat → Prop
  | .nan, b => b = 9221120237041090561
  | .inf true, b => b = 18442240474082181120
  | .inf false, b => b = 9218868437227405312
  | .fin neg X, b => FltOf neg X b
def Num.ok : Num → Prop
  | .fin _ X => X < 1000000000000000
  | _ => True
theorem flt_lt {neg : Bool} {X b : Nat} (h : FltOf neg X b) : X < 1000000000000000 := by rcases h with ⟨rfl, _⟩ | ⟨_, h, _⟩ <;> omega

/-- A magnitude at its place. -/
def MagOf (X mag k : Nat) : Prop := (X = 0 ∧ mag = 0 ∧ k = 1074) ∨ (0 < X ∧ 4503599627370496 ≤ mag ∧ mag < 9007199254740992 ∧ 23 ≤ k ∧ k ≤ 72 ∧ Near mag k X)
theorem flt_read {neg : Bool} {X b : Nat} (h : FltOf neg X b) : ∃ mag k, MagOf X mag k ∧ double.read b = .number neg mag (-(k : Int)) := by
  rcases h with ⟨rfl, rfl⟩ | ⟨h0, _, m, k, hm, hm2, hk, hk2, hN, rfl⟩
  · exact ⟨0, 1074, .inl ⟨rfl, rfl, rfl⟩, by rw [read_zero]; rfl⟩
  · refine ⟨m, k, .inr ⟨h0, hm, hm2, hk, hk2, hN⟩, ?_⟩
    rw [read_word neg (1074 - k) m hm hm2 (by omega)]
    congr 1
    omega
theorem shl_pow (m n : Nat) : m <<< n = m * 2 ^ n := Nat.shiftLeft_eq m n
theorem mag_lt {X mag k X' mag' k' K : Nat} (h : MagOf X mag k) (h' : MagOf X' mag' k') (hX : X < X') (hK : k ≤ K) (hK' : k' ≤ K) : mag <<< (K - k) < mag' <<< (K - k') := by
  rw [shl_pow, shl_pow]
  rcases h' with ⟨rfl, _, _⟩ | ⟨h0', a1, a2, a3, a4, a5⟩
  · omega
  rcases h with ⟨rfl, rfl, rfl⟩ | ⟨h0, b1, b2, b3, b4, b5⟩
  · rw [Nat.zero_mul]; exact Nat.mul_pos (by omega) (Nat.pow_pos (by decide))
  · have hl := near_lt b5 a5 b3 a3 hX
    refine Nat.lt_of_mul_lt_mul_right (a := 2 ^ (k + k')) ?_
    have e1 : mag * 2 ^ (K - k) * 2 ^ (k + k') = mag * 2 ^ k' * 2 ^ K := by
      rw [Nat.mul_assoc, ← Nat.pow_add, Nat.mul_assoc, ← Nat.pow_add]; congr 2; omega
    have e2 : mag' * 2 ^ (K - k') * 2 ^ (k + k') = mag' * 2 ^ k * 2 ^ K := by
      rw [Nat.mul_assoc, ← Nat.pow_add, Nat.mul_assoc, ← Nat.pow_add]; congr 2; omega
    rw [e1, e2]
    exact Nat.mul_lt_mul_of_pos_right hl (Nat.pow_pos (by decide))
theorem mag_same {X mag k mag' k' : Nat} (h : MagOf X mag k) (h' : MagOf X mag' k') : mag = mag' ∧ k = k' := by
  rcases h with ⟨h0, rfl, rfl⟩ | ⟨h0, b1, b2, b3, b4, b5⟩ <;> rcases h' with ⟨h0', rfl, rfl⟩ | ⟨h0', a1, a2, a3, a4, a5⟩
  · exact ⟨rfl, rfl⟩
  · omega
  · omega
  · exact near_unique b5 a5 b1 b2 a1 a2
/-- The order of two magnitudes, their signs laid on. -/
theorem signed_cmp {n n' : Bool} {X mag k X' mag' k' K : Nat} (h : MagOf X mag k) (h' : MagOf X' mag' k') (hK : k ≤ K) (hK' : k' ≤ K) :
    compare (signed n mag (K - k)) (signed n' mag' (K - k')) = compare (Num.fin n X).key (Num.fin n' X').key := by
  have p0 : 0 < X → 0 < mag <<< (K - k) := fun hx => by
    have := mag_lt (X := 0) (mag := 0) (k := 1074) (K := K + 1074) (.inl ⟨rfl, rfl, rfl⟩) h hx (by omega) (by omega)
    rw [shl_pow] at this ⊢
    rcases Nat.eq_zero_or_pos mag with e | e
    · rw [e] at this; simp at this
    · exact Nat.mul_pos e (Nat.pow_pos (by decide))
  have p0' : 0 < X' → 0 < mag' <<< (K - k') := fun hx => by
    have := mag_lt (X := 0) (mag := 0) (k := 1074) (K := K + 1074) (.inl ⟨rfl, rfl, rfl⟩) h' hx (by omega) (by omega)
    rw [shl_pow] at this ⊢
    rcases Nat.eq_zero_or_pos mag' with e | e
    · rw [e] at this; simp at this
    · exact Nat.mul_pos e (Nat.pow_pos (by decide))
  have z0 : X = 0 → mag <<< (K - k) = 0 := fun hx => by
    rcases h with ⟨_, rfl, _⟩ | ⟨h0, _⟩
    · rw [shl_pow, Nat.zero_mul]
    · omega
  have z0' : X' = 0 → mag' <<< (K - k') = 0 := fun hx => by
    rcases h' with ⟨_, rfl, _⟩ | ⟨h0, _⟩
    · rw [shl_pow, Nat.zero_mul]
    · omega
  have l1 : X < X' → mag <<< (K - k) < mag' <<< (K - k') := fun hx => mag_lt h h' hx hK hK'
  have l2 : X' < X → mag' <<< (K - k') < mag <<< (K - k) := fun hx => mag_lt h' h hx hK' hK
  have l3 : X = X' → mag <<< (K - k) = mag' <<< (K - k') := fun hx => by
    subst hx
    obtain ⟨rfl, rfl⟩ := mag_same h h'
    rfl
  obtain ⟨A, hA⟩ : ∃ A, A = mag <<< (K - k) := ⟨_, rfl⟩
  obtain ⟨A', hA'⟩ : ∃ A', A' = mag' <<< (K - k') := ⟨_, rfl⟩
  unfold signed
  rw [← hA] at p0 z0 l1 l2 l3 ⊢
  rw [← hA'] at p0' z0' l1 l2 l3 ⊢
  clear hA hA' h h'
  have key : ∀ a b c d : Int, (a < b ↔ c < d) → (a = b ↔ c = d) → compare a b = compare c d := fun a b c d h1 h2 => by
    show compareOfLessAndEq a b = compareOfLessAndEq c d
    unfold compareOfLessAndEq
    simp only [h1, h2]
  cases n <;> cases n' <;> simp only [Num.key, if_true, Bool.false_eq_true, if_false] <;> refine key _ _ _ _ ?_ ?_ <;> omega

theorem fin_order {n n' : Bool} {X X' b b' : Nat} (h : FltOf n X b) (h' : FltOf n' X' b') : double.order b b' = some (compare (Num.fin n X).key (Num.fin n' X').key) := by
  obtain ⟨mag, k, hm, hr⟩ := flt_read h
  obtain ⟨mag', k', hm', hr'⟩ := flt_read h'
  unfold Format.order
  rw [hr, hr']
  show some (compare (signed n mag (-(k : Int) - min (-(k : Int)) (-(k' : Int))).toNat) (signed n' mag' (-(k' : Int) - min (-(k : Int)) (-(k' : Int))).toNat)) = _
  have e1 : (-(k : Int) - min (-(k : Int)) (-(k' : Int))).toNat = max k k' - k := by omega
  have e2 : (-(k' : Int) - min (-(k : Int)) (-(k' : Int))).toNat = max k k' - k' := by omega
  rw [e1, e2, signed_cmp hm hm' (by omega) (by omega)]
theorem cmp_lt {a b : Int} (h : a < b) : compare a b = .lt := by
  show compareOfLessAndEq a b = _
  unfold compareOfLessAndEq
  rw [if_pos h]
theorem cmp_gt {a b : Int} (h : b < a) : compare a b = .gt := by
  show compareOfLessAndEq a b = _
  unfold compareOfLessAndEq
  rw [if_neg (by omega), if_neg (by omega)]
theorem read_inf (neg : Bool) : double.read (if neg = true then 18442240474082181120 else 9218868437227405312) = .infinity neg := by cases neg <;> decide
theorem read_nan : double.read 9221120237041090561 = .nan false 2251799813685249 := by decide

theorem FloatIs.read {n : Num} {b : Nat} (h : FloatIs n b) : (n = .nan ∧ ∃ s f, double.read b = .nan s f) ∨ (∃ s, n = .inf s ∧ double.read b = .infinity s) ∨ (∃ s X m k, n = .fin s X ∧ FltOf s X b ∧ double.read b = .number s m k) := by
  cases n with
  | nan => exact .inl ⟨rfl, _, _, by rw [show b = _ from h]; exact read_nan⟩
  | inf s => cases s with
    | false => exact .inr (.inl ⟨false, rfl, by rw [show b = _ from h]; exact read_inf false⟩)
    | true => exact .inr (.inl ⟨true, rfl, by rw [show b = _ from h]; exact read_inf true⟩)
  | fin s X =>
    obtain ⟨m, k, _, hr⟩ := flt_read (show FltOf s X b from h)
    exact .inr (.inr ⟨s, X, m, _, rfl, h, hr⟩)
/-- The order of two floats that are no NaN. -/
theorem order_of {n n' : Num} {b b' : Nat} (h : FloatIs n b) (h' : FloatIs n' b') : double.order b b' = match n, n' with
    | .nan, _ => none
    | _, .nan => none
    | n, n' => some (compare n.key n'.key) := by
  rcases h.read with ⟨rfl, s, f, hr⟩ | ⟨s, rfl, hr⟩ | ⟨s, X, m, k, rfl, hf, hr⟩
  · unfold Format.order; rw [hr]; rfl
  · rcases h'.read with ⟨rfl, s', f', hr'⟩ | ⟨s', rfl, hr'⟩ | ⟨s', X', m', k', rfl, hf', hr'⟩
    · unfold Format.order; rw [hr, hr']; rfl
    · unfold Format.order; rw [hr, hr']; cases s <;> cases s' <;> rfl
    · have hl := flt_lt hf'
      unfold Format.order; rw [hr, hr']
      cases s <;> cases s'
      · exact congrArg some (cmp_gt (by show (X' : Int) < 1000000000000000; omega)).symm
      · exact congrArg some (cmp_gt (by show -(X' : Int) < 1000000000000000; omega)).symm
      · exact congrArg some (cmp_lt (by show -1000000000000000 < (X' : Int); omega)).symm
      · exact congrArg some (cmp_lt (by show -1000000000000000 < -(X' : Int); omega)).symm
  · rcases h'.read with ⟨rfl, s', f', hr'⟩ | ⟨s', rfl, hr'⟩ | ⟨s', X', m', k', rfl, hf', hr'⟩
    · unfold Format.order; rw [hr, hr']; rfl
    · have hl := flt_lt hf
      unfold Format.order; rw [hr, hr']
      cases s <;> cases s'
      · exact congrArg some (cmp_lt (by show (X : Int) < 1000000000000000; omega)).symm
      · exact congrArg some (cmp_gt (by show -1000000000000000 < (X : Int); omega)).symm
      · exact congrArg some (cmp_lt (by show -(X : Int) < 1000000000000000; omega)).symm
      · exact congrArg some (cmp_gt (by show -1000000000000000 < -(X : Int); omega)).symm
    · exact fin_order hf hf'
def Num.top : Num → Bool
  | .inf false => true
  | _ => false
/-- No number is beyond the greatest float; an infinity is. -/
theorem order_max {n : Num} {b : Nat} (h : FloatIs n b) (hn : n ≠ .nan) : (double.order b 9218868437227405311 == some .gt) = n.top := by
  have hm : double.read 9218868437227405311 = .number false 9007199254740991 971 := by decide
  cases n with
  | nan => exact absurd rfl hn
  | inf s =>
    unfold Format.order
    cases s with
    | false => rw [show b = _ from h, hm]; rw [show double.read 9218868437227405312 = .infinity false from by decide]; rfl
    | true => rw [show b = _ from h, hm]; rw [show double.read 18442240474082181120 = .infinity true from by decide]; rfl
  | fin s X =>
    obtain ⟨mag, k, hk, hr⟩ := flt_read (show FltOf s X b from h)
    have hlt : mag < 9007199254740992 := by rcases hk with ⟨_, rfl, _⟩ | ⟨_, _, h, _⟩ <;> omega
    unfold Format.order
    rw [hr, hm]
    show (some (compare (signed s mag (-(k : Int) - min (-(k : Int)) 971).toNat) (signed false 9007199254740991 ((971 : Int) - min (-(k : Int)) 971).toNat)) == some Ordering.gt) = false
    have e1 : (-(k : Int) - min (-(k : Int)) 971).toNat = 0 := by omega
    obtain ⟨u, hu⟩ : ∃ u, u = ((971 : Int) - min (-(k : Int)) 971).toNat := ⟨_, rfl⟩
    rw [e1, ← hu]
    have hb : 9007199254740991 ≤ 9007199254740991 <<< u := by
      rw [shl_pow]; exact Nat.le_mul_of_pos_right _ (Nat.pow_pos (by decide))
    obtain ⟨B, hB⟩ : ∃ B, B = 9007199254740991 <<< u := ⟨_, rfl⟩
    rw [← hB] at hb
    unfold signed
    rw [← hB, if_neg (by decide : ¬ false = true), Nat.shiftLeft_zero]
    have : compare (if s = true then -(mag : Int) else (mag : Int)) (B : Int) ≠ .gt := by
      have hlt' : (if s = true then -(mag : Int) else (mag : Int)) ≤ B := by cases s <;> simp <;> omega
      generalize (if s = true then -(mag : Int) else (mag : Int)) = A at hlt'
      show compareOfLessAndEq A (B : Int) ≠ _
      unfold compareOfLessAndEq
      split
      · decide
      · rw [if_pos (by omega)]; decide
    rw [beq_eq_false_iff_ne]
    intro e
    exact this (Option.some.inj e)
/-- The other sign. -/
def Num.opp : Num → Num
  | .nan => .nan
  | .inf s => .inf !s
  | .fin s X => .fin (!s) X
theorem xor_back (a : Nat) : (a ^^^ 2 ^ 63) ^^^ 2 ^ 63 = a := by rw [Nat.xor_assoc, Nat.xor_self, Nat.xor_zero]
theorem flt_opp {s : Bool} {X b : Nat} (h : FltOf s X b) : FltOf (!s) X (Op.negFloat .f64 b) := by
  rcases h with ⟨rfl, rfl⟩ | ⟨h0, h1, m, k, hm, hm2, hk, hk2, hN, rfl⟩
  · exact .inl ⟨rfl, by cases s <;> decide⟩
  · refine .inr ⟨h0, h1, m, k, hm, hm2, hk, hk2, hN, ?_⟩
    have hlt : (1074 - k) * 4503599627370496 + m < 9223372036854775808 := by omega
    cases s with
    | false => exact neg_word _ _ hlt
    | true =>
      rw [← neg_word _ _ hlt]
      exact xor_back _
end Go.Proofs.YtaalopiegabghaaGreatDoor
