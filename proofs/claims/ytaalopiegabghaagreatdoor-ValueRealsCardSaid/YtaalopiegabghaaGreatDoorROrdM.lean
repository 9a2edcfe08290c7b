/- The order of numbers, and their forms: mathematics. -/
import Derived.Test.YtaalopiegabghaaGreatDoorRAt
namespace Go.Proofs.YtaalopiegabghaaGreatDoor
open Go.Lib

theorem key_same {n m : Num} (hn : n.ok) (hm : m.ok) : n.key = m.key ↔ n = m ∨ (∃ s t, n = .fin s 0 ∧ m = .fin t 0) := by
  have kf : ∀ s X, (Num.fin s X).ok → -1000000000000000 < (Num.fin s X).key ∧ (Num.fin s X).key < 1000000000000000 := fun s X h => by
    have h : X < 1000000000000000 := h
    cases s
    · show (-1000000000000000 : Int) < (X : Int) ∧ (X : Int) < 1000000000000000; omega
    · show (-1000000000000000 : Int) < -(X : Int) ∧ -(X : Int) < 1000000000000000; omega
  constructor
  · intro h
    cases n with
    | nan =>
      cases m with
      | nan => exact .inl rfl
      | inf t => cases t <;> exact absurd h (by decide)
      | fin t Y => have := kf t Y hm; rw [← h] at this; exact absurd this.2 (by decide)
    | inf s =>
      cases m with
      | nan => cases s <;> exact absurd h (by decide)
      | inf t => cases s <;> cases t <;> first | exact .inl rfl | exact absurd h (by decide)
      | fin t Y => have := kf t Y hm; rw [← h] at this; cases s <;> exact absurd this (by decide)
    | fin s X =>
      cases m with
      | nan => have := kf s X hn; rw [h] at this; exact absurd this.2 (by decide)
      | inf t => have := kf s X hn; rw [h] at this; cases t <;> exact absurd this (by decide)
      | fin t Y =>
        cases s <;> cases t
        · have h : (X : Int) = Y := h
          left; rw [show X = Y by omega]
        · have h : (X : Int) = -(Y : Int) := h
          right; exact ⟨false, true, by rw [show X = 0 by omega], by rw [show Y = 0 by omega]⟩
        · have h : -(X : Int) = Y := h
          right; exact ⟨true, false, by rw [show X = 0 by omega], by rw [show Y = 0 by omega]⟩
        · have h : -(X : Int) = -(Y : Int) := h
          left; rw [show X = Y by omega]
  · rintro (rfl | ⟨s, t, rfl, rfl⟩)
    · rfl
    · cases s <;> cases t <;> rfl
theorem cmp_zero (n m : Num) : n.cmp m = 0 ↔ n.key = m.key := by
  unfold Num.cmp
  by_cases h1 : n.key < m.key
  · rw [if_pos h1]; constructor
    · intro h; exact absurd h (by decide)
    · intro h; omega
  · rw [if_neg h1]
    by_cases h2 : m.key < n.key
    · rw [if_pos h2]; constructor
      · intro h; exact absurd h (by decide)
      · intro h; omega
    · rw [if_neg h2]; constructor
      · intro _; omega
      · intro _; rfl
theorem cmp_sign (n m : Num) : (n.cmp m = -1 ∧ n.key < m.key) ∨ (n.cmp m = 0 ∧ n.key = m.key) ∨ (n.cmp m = 1 ∧ m.key < n.key) := by
  unfold Num.cmp
  by_cases h1 : n.key < m.key
  · left; exact ⟨if_pos h1, h1⟩
  · by_cases h2 : m.key < n.key
    · right; right; exact ⟨by rw [if_neg h1, if_pos h2], h2⟩
    · right; left; exact ⟨by rw [if_neg h1, if_neg h2], by omega⟩
theorem cmp_flip (n m : Num) : m.cmp n = -(n.cmp m) := by
  rcases cmp_sign n m with ⟨h, k⟩ | ⟨h, k⟩ | ⟨h, k⟩ <;> rcases cmp_sign m n with ⟨h', k'⟩ | ⟨h', k'⟩ | ⟨h', k'⟩ <;> omega
theorem cmp_self (n : Num) : n.cmp n = 0 := (cmp_zero n n).2 rfl
/-- Equal ones have one form, but for nought's two. -/
theorem same_form {n m : Num} (hn : n.ok) (hm : m.ok) : n.cmp m = 0 ↔ canonB n = canonB m ∨ (canonB n = [48] ∧ canonB m = [45, 48]) ∨ (canonB n = [45, 48] ∧ canonB m = [48]) := by
  have z0 : canonB (.fin false 0) = [48] := rfl
  have z1 : canonB (.fin true 0) = [45, 48] := rfl
  have ok0 : ∀ s, (Num.fin s 0).ok := fun s => by show 0 < 1000000000000000; decide
  rw [cmp_zero, key_same hn hm]
  constructor
  · rintro (rfl | ⟨s, t, rfl, rfl⟩)
    · exact .inl rfl
    · cases s <;> cases t
      · exact .inl rfl
      · exact .inr (.inl ⟨z0, z1⟩)
      · exact .inr (.inr ⟨z1, z0⟩)
      · exact .inl rfl
  · rintro (h | ⟨h, h'⟩ | ⟨h, h'⟩)
    · exact .inl (canon_inj hn hm h)
    · exact .inr ⟨false, true, canon_inj hn (ok0 _) (h.trans z0.symm), canon_inj hm (ok0 _) (h'.trans z1.symm)⟩
    · exact .inr ⟨true, false, canon_inj hn (ok0 _) (h.trans z1.symm), canon_inj hm (ok0 _) (h'.trans z0.symm)⟩
theorem zC_of {l r : Bs} {n m : Num} (h : numB l = some n) (h' : numB r = some m) : zC l r = n.cmp m := by unfold zC; rw [h, h']
theorem zE_of {l r : Bs} {n m : Num} (h : numB l = some n) (h' : numB r = some m) : zE l r = 0 := by unfold zE; rw [h, h']; rfl
theorem cS_num {l : Bs} {n : Num} (h : numB l = some n) : cS l = canonB n := by unfold cS; rw [h]
theorem cE_num {l : Bs} {n : Num} (h : numB l = some n) : cE l = 0 := by unfold cE; rw [h]; rfl
theorem cE_none {l : Bs} (h : numB l = none) : cE l = 9 := by unfold cE; rw [h]; rfl
theorem num_cS {l : Bs} {n : Num} (h : numB l = some n) : numB (cS l) = some n := by rw [cS_num h]; exact canon_num (num_okB h)
end Go.Proofs.YtaalopiegabghaaGreatDoor
