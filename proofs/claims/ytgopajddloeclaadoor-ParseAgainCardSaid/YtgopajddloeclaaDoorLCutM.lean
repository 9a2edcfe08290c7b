/- A part of a text, cut out from a token's first byte to a token's last one, has the tokens that were there: mathematics. -/
import Derived.Test.YtgopajddloeclaaDoorZ23
namespace Go.Proofs.YtgopajddloeclaaDoor

/-- What is skipped makes a text shorter. -/
theorem sk_short : ∀ (n : Nat) (l : Bs) (m : Nat) (r : Bs), l.length ≤ n → sk l m = some r → r.length ≤ l.length ∧ (1 ≤ m → l ≠ [] → r.length < l.length) := by
  intro n
  induction n with
  | zero =>
    intro l m r hl h
    obtain rfl := List.length_eq_zero_iff.1 (Nat.le_zero.1 hl)
    rw [sk] at h
    split at h
    · cases h; exact ⟨Nat.le_refl _, fun _ e => absurd rfl e⟩
    · cases h
  | succ n ih =>
    intro l m r hl h
    match l, m with
    | [], m =>
      rw [sk] at h
      split at h
      · cases h; exact ⟨Nat.le_refl _, fun _ e => absurd rfl e⟩
      · cases h
    | [a], 0 =>
      refine ⟨?_, fun e => absurd e (by omega)⟩
      rw [sk] at h
      split at h
      · have := (ih [] 0 r (by simp) h).1; simp at this ⊢; simp [this]
      · cases h; exact Nat.le_refl _
    | a :: b :: q, 0 =>
      refine ⟨?_, fun e => absurd e (by omega)⟩
      simp only [List.length_cons] at hl ⊢
      rw [sk] at h
      split at h
      · have := (ih (b :: q) 0 r (by simp; omega) h).1; simp at this; omega
      split at h
      · have := (ih q 1 r (by omega) h).1; omega
      split at h
      · have := (ih q 3 r (by omega) h).1; omega
      · cases h; simp
    | a :: q, 1 =>
      simp only [List.length_cons] at hl ⊢
      rw [sk_line'] at h
      split at h
      · have := (ih q 0 r (by omega) h).1; exact ⟨by omega, fun _ _ => by omega⟩
      · have := (ih q 1 r (by omega) h).1; exact ⟨by omega, fun _ _ => by omega⟩
    | [a], d + 2 => cases h
    | a :: b :: q, d + 2 =>
      simp only [List.length_cons] at hl ⊢
      rw [sk] at h
      have fin : ∀ {x : Nat}, x ≤ q.length + 1 → x ≤ q.length + 1 + 1 ∧ (1 ≤ d + 2 → a :: b :: q ≠ [] → x < q.length + 1 + 1) := fun hx => ⟨by omega, fun _ _ => by omega⟩
      split at h
      · split at h
        · have := (ih q _ r (by omega) h).1; exact fin (by omega)
        · cases h
      split at h
      · split at h
        · have := (ih q _ r (by omega) h).1; exact fin (by omega)
        · have := (ih q _ r (by omega) h).1; exact fin (by omega)
      · have := (ih (b :: q) _ r (by simp; omega) h).1; simp at this; exact fin (by omega)

/-- What is left is read as it is. -/
theorem sk_idem : ∀ (n : Nat) (l : Bs) (m : Nat) (a : UInt8) (q : Bs), l.length ≤ n → sk l m = some (a :: q) → sk (a :: q) 0 = some (a :: q) := by
  intro n
  induction n with
  | zero =>
    intro l m a q hl h
    obtain rfl := List.length_eq_zero_iff.1 (Nat.le_zero.1 hl)
    rw [sk] at h
    split at h <;> cases h
  | succ n ih =>
    intro l m a q hl h
    have h' := h
    match l, m with
    | [], m =>
      rw [sk] at h
      split at h <;> cases h
    | [x], 0 =>
      rw [sk] at h
      split at h
      · cases h
      · cases h; exact h'
    | x :: b :: r, 0 =>
      simp only [List.length_cons] at hl
      rw [sk] at h
      split at h
      · exact ih (b :: r) 0 a q (by simp; omega) h
      split at h
      · exact ih r 1 a q (by omega) h
      split at h
      · exact ih r 3 a q (by omega) h
      · cases h; exact h'
    | x :: r, 1 =>
      simp only [List.length_cons] at hl
      rw [sk_line'] at h
      split at h
      · exact ih r 0 a q (by omega) h
      · exact ih r 1 a q (by omega) h
    | [x], d + 2 => cases h
    | x :: b :: r, d + 2 =>
      simp only [List.length_cons] at hl
      rw [sk] at h
      split at h
      · split at h
        · exact ih r _ a q (by omega) h
        · cases h
      split at h
      · split at h
        · exact ih r _ a q (by omega) h
        · exact ih r _ a q (by omega) h
      · exact ih (b :: r) _ a q (by simp; omega) h

/-- What is skipped ahead of a token, alone, and with less behind. -/
theorem sk_cut (a : UInt8) (q z : Bs) : ∀ (n : Nat) (p : Bs) (m : Nat), p.length ≤ n → sk (p ++ a :: (q ++ z)) m = some (a :: (q ++ z)) → sk p m = some [] ∧ sk (p ++ a :: q) m = some (a :: q) := by
  intro n
  have no : ∀ (l : Bs) (m : Nat), l.length ≤ (q ++ z).length → sk l m = some (a :: (q ++ z)) → False := by
    intro l m hl h
    have := (sk_short _ l m _ (Nat.le_refl _) h).1
    rw [List.length_cons] at this
    omega
  have base : ∀ m, sk (a :: (q ++ z)) m = some (a :: (q ++ z)) → sk [] m = some [] ∧ sk (a :: q) m = some (a :: q) := by
    intro m h
    match m with
    | 0 =>
      refine ⟨rfl, ?_⟩
      cases q with
      | nil =>
        cases z with
        | nil => exact h
        | cons y z =>
          have h : sk (a :: y :: z) 0 = _ := h
          rw [sk] at h
          split at h
          · exact absurd h (fun e => no (y :: z) 0 (Nat.le_refl _) e)
          · rename_i hb; rw [sk, if_neg hb]
      | cons y q =>
        have h : sk (a :: y :: (q ++ z)) 0 = _ := h
        rw [sk] at h
        have hl : ((y :: q) ++ z).length = (q ++ z).length + 1 := by simp
        split at h
        · exact absurd h (fun e => no (y :: (q ++ z)) 0 (by simp) e)
        · rename_i hb
          split at h
          · exact absurd h (fun e => no _ 1 (by rw [hl]; omega) e)
          rename_i h1
          split at h
          · exact absurd h (fun e => no _ 3 (by rw [hl]; omega) e)
          rename_i h2
          rw [sk, if_neg hb, if_neg h1, if_neg h2]
    | m + 1 =>
      have := (sk_short _ _ _ _ (Nat.le_refl _) h).2 (by omega) (by simp)
      omega
  induction n with
  | zero =>
    intro p m hl h
    obtain rfl := List.length_eq_zero_iff.1 (Nat.le_zero.1 hl)
    exact base m h
  | succ n ih =>
    intro p m hl h
    match p, m with
    | [], m => exact base m h
    | [x], 0 =>
      have h : sk (x :: a :: (q ++ z)) 0 = _ := h
      show sk [x] 0 = _ ∧ sk (x :: a :: q) 0 = _
      rw [sk] at h
      split at h
      · rename_i hb
        have := ih [] 0 (by simp) h
        exact ⟨by rw [sk_blank' _ _ hb]; rfl, by rw [sk_blank' _ _ hb]; exact this.2⟩
      split at h
      · exact absurd h (fun e => no _ 1 (Nat.le_refl _) e)
      split at h
      · exact absurd h (fun e => no _ 3 (Nat.le_refl _) e)
      · have := congrArg List.length (Option.some.inj h); simp at this
    | x :: b :: p, 0 =>
      simp only [List.length_cons] at hl
      have h : sk (x :: b :: (p ++ a :: (q ++ z))) 0 = _ := h
      show sk (x :: b :: p) 0 = _ ∧ sk (x :: b :: (p ++ a :: q)) 0 = _
      rw [sk] at h ⊢
      rw [sk]
      by_cases hb : blank x = true
      · rw [if_pos hb] at h ⊢
        rw [if_pos hb]
        exact ih (b :: p) 0 (by simp; omega) h
      · rw [if_neg hb] at h ⊢
        rw [if_neg hb]
        by_cases h1 : x = 45 ∧ b = 45
        · rw [if_pos h1] at h ⊢
          rw [if_pos h1]
          exact ih p 1 (by omega) h
        · rw [if_neg h1] at h ⊢
          rw [if_neg h1]
          by_cases h2 : x = 47 ∧ b = 42
          · rw [if_pos h2] at h ⊢
            rw [if_pos h2]
            exact ih p 3 (by omega) h
          · rw [if_neg h2] at h
            have := congrArg List.length (Option.some.inj h); simp at this; omega
    | x :: p, 1 =>
      simp only [List.length_cons] at hl
      rw [List.cons_append, sk_line'] at h
      rw [List.cons_append, sk_line', sk_line']
      by_cases hx : x = 10
      · rw [if_pos hx] at h ⊢
        rw [if_pos hx]
        exact ih p 0 (by omega) h
      · rw [if_neg hx] at h ⊢
        rw [if_neg hx]
        exact ih p 1 (by omega) h
    | [x], d + 2 =>
      have h : sk (x :: a :: (q ++ z)) (d + 2) = _ := h
      rw [sk] at h
      exfalso
      split at h
      · split at h
        · exact no _ _ (Nat.le_refl _) h
        · cases h
      split at h
      · split at h
        · exact no _ _ (Nat.le_refl _) h
        · exact no _ _ (Nat.le_refl _) h
      · have := (sk_short _ _ _ _ (Nat.le_refl _) h).2 (by omega) (by simp)
        omega
    | x :: b :: p, d + 2 =>
      simp only [List.length_cons] at hl
      have h : sk (x :: b :: (p ++ a :: (q ++ z))) (d + 2) = _ := h
      show sk (x :: b :: p) (d + 2) = _ ∧ sk (x :: b :: (p ++ a :: q)) (d + 2) = _
      rw [sk] at h ⊢
      rw [sk]
      by_cases h1 : x = 47 ∧ b = 42
      · rw [if_pos h1] at h ⊢
        rw [if_pos h1]
        by_cases h2 : d + 1 ≤ 8
        · rw [if_pos h2] at h ⊢
          rw [if_pos h2]
          exact ih p _ (by omega) h
        · rw [if_neg h2] at h; cases h
      · rw [if_neg h1] at h ⊢
        rw [if_neg h1]
        by_cases h2 : x = 42 ∧ b = 47
        · rw [if_pos h2] at h ⊢
          rw [if_pos h2]
          by_cases h3 : d = 1
          · rw [if_pos h3] at h ⊢
            rw [if_pos h3]
            exact ih p _ (by omega) h
          · rw [if_neg h3] at h ⊢
            rw [if_neg h3]
            exact ih p _ (by omega) h
        · rw [if_neg h2] at h ⊢
          rw [if_neg h2]
          exact ih (b :: p) _ (by simp; omega) h
end Go.Proofs.YtgopajddloeclaaDoor
