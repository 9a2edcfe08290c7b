/- What has no end. -/
import Derived.Test.YtgopajddloeclaaDoorZ19
namespace Go.Proofs.YtgopajddloeclaaDoor

theorem tokens_blank (b : UInt8) (z : Bs) (h : blank b = true) : tokens (b :: z) = (tokens z).map (·.map (moved 1)) := by
  unfold tokens
  have hb : b ≠ 0 := fun e => by subst e; exact absurd h (by decide)
  by_cases hz : (0 : UInt8) ∈ z
  · rw [if_pos hz, if_pos (by simp [hz])]; rfl
  · rw [if_neg hz, if_neg (by simp [hz]; exact fun e => hb e.symm), List.length_cons, toks_tk, sk_blank' _ _ h, ← toks_tk, toks_moved _ _ _ _ (Nat.le_refl _), toks_fuel _ (z.length + 1) _ z (by omega) (by omega)]

/-- A blank line between. -/
theorem tokens_lines (s t : Bs) {L : List Tok} (h : tokens s = some L) : tokens (s ++ 10 :: 32 :: 10 :: t) = (tokens t).map fun R => L ++ R.map (moved (s.length + 3)) := by
  rw [tokens_join s _ h, tokens_blank 32 _ (by decide), tokens_blank 10 _ (by decide), Option.map_map, Option.map_map]
  congr 1
  funext R
  simp only [Function.comp, List.map_map]
  congr 1
  refine List.map_congr_left fun q _ => ?_
  show (⟨q.kind, q.text, q.lo + 1 + 1 + (s.length + 1), q.hi + 1 + 1 + (s.length + 1)⟩ : Tok) = ⟨q.kind, q.text, q.lo + (s.length + 3), q.hi + (s.length + 3)⟩
  congr 1 <;> omega

def Clean (t : Bs) : Prop := ∀ b ∈ t, b ≠ 39 ∧ b ≠ 34 ∧ b ≠ 36 ∧ b ≠ 42 ∧ b ≠ 92

theorem qt_none (mark : UInt8) (esc : Bool) : ∀ (n : Nat) (t : Bs), t.length ≤ n → mark ∉ t → (esc = true → (92 : UInt8) ∉ t) → qt mark esc t = none := by
  intro n
  induction n with
  | zero =>
    intro t hl _ _
    rw [List.length_eq_zero_iff.1 (by omega : t.length = 0)]; rfl
  | succ n ih =>
    intro t hl hm he
    match t with
    | [] => rfl
    | [x] =>
      rw [qt_one, if_neg (fun e => he e.1 (by simp [e.2])), if_neg (fun e => hm (by simp [e]))]; rfl
    | x :: y :: r =>
      simp only [List.length_cons] at hl
      rw [qt_two, if_neg (fun e => he e.1 (by simp [e.2])), if_neg (fun e => hm (by simp [e])), ih (y :: r) (by simp; omega) (fun e => hm (List.mem_cons_of_mem _ e)) (fun h e => he h (List.mem_cons_of_mem _ e))]; rfl

theorem sk_none : ∀ (t : Bs) (d : Nat), (42 : UInt8) ∉ t → sk t (d + 2) = none := by
  intro t
  induction t with
  | nil => intro d _; rw [sk, if_neg (by omega)]
  | cons a t ih =>
    intro d h
    match t with
    | [] => rfl
    | b :: q =>
      rw [sk, if_neg (fun e => h (by simp [e.2])), if_neg (fun e => h (by simp [e.1])), ih d (fun e => h (List.mem_cons_of_mem _ e))]

theorem find_none (u : Bs) : ∀ t : Bs, (36 : UInt8) ∉ t → find (36 :: u) t = none := by
  intro t
  induction t with
  | nil => intro _; rfl
  | cons a t ih =>
    intro h
    have h1 : (36 :: u).isPrefixOf (a :: t) = false := by
      rw [← Bool.not_eq_true]
      intro e
      simp [List.isPrefixOf] at e
      exact h (by simp [e.1])
    rw [find, h1, ih (fun e => h (List.mem_cons_of_mem _ e))]
    rfl

def opened : List Bs := [[39], [101, 39], [34], [47, 42], [36, 113, 36], [36, 36]]

theorem tokens_none {t : Bs} (hs : sk t 0 = none ∨ ∃ a q, sk t 0 = some (a :: q) ∧ token (a :: q) = none) : tokens t = none := by
  unfold tokens
  split
  · rfl
  · rw [toks_tk]
    rcases hs with h | ⟨a, q, h, ht⟩
    · rw [h]; rfl
    · rw [h]
      show tk _ _ (a :: q) = none
      rw [tk, ht]

theorem open_none {o t : Bs} (ho : o ∈ opened) (ht : Clean t) : tokens (o ++ t) = none := by
  have h39 : (39 : UInt8) ∉ t := fun e => (ht _ e).1 rfl
  have h34 : (34 : UInt8) ∉ t := fun e => (ht _ e).2.1 rfl
  have h36 : (36 : UInt8) ∉ t := fun e => (ht _ e).2.2.1 rfl
  have h42 : (42 : UInt8) ∉ t := fun e => (ht _ e).2.2.2.1 rfl
  have h92 : (92 : UInt8) ∉ t := fun e => (ht _ e).2.2.2.2 rfl
  simp only [opened, List.mem_cons, List.not_mem_nil, or_false] at ho
  rcases ho with rfl | rfl | rfl | rfl | rfl | rfl
  · refine tokens_none (.inr ⟨39, t, sk_first (by decide) (fun e => absurd e.1 (by decide)) (fun e => absurd e.1 (by decide)), ?_⟩)
    rw [token, if_neg (fun e => absurd e.1 (by decide)), if_neg (by decide), if_neg (by decide), if_pos rfl, qt_none 39 false _ t (Nat.le_refl _) h39 (by simp)]; rfl
  · refine tokens_none (.inr ⟨101, 39 :: t, sk_first (by decide) (fun e => absurd e.1 (by decide)) (fun e => absurd e.1 (by decide)), ?_⟩)
    rw [token, if_pos ⟨.inl rfl, rfl⟩]
    show (qt 39 true t).map _ = none
    rw [qt_none 39 true _ t (Nat.le_refl _) h39 (fun _ => h92)]; rfl
  · refine tokens_none (.inr ⟨34, t, sk_first (by decide) (fun e => absurd e.1 (by decide)) (fun e => absurd e.1 (by decide)), ?_⟩)
    rw [token, if_neg (fun e => absurd e.1 (by decide)), if_neg (by decide), if_pos rfl, qt_none 34 false _ t (Nat.le_refl _) h34 (by simp)]; rfl
  · refine tokens_none (.inl ?_)
    show sk (47 :: 42 :: t) 0 = none
    rw [sk, if_neg (by decide), if_neg (by decide), if_pos ⟨rfl, rfl⟩]
    exact sk_none t 1 h42
  · refine tokens_none (.inr ⟨36, 113 :: 36 :: t, sk_first (by decide) (fun e => absurd e.1 (by decide)) (fun e => absurd e.1 (by decide)), ?_⟩)
    have e : tagOf (36 :: 113 :: 36 :: t) = some [36, 113, 36] := rfl
    rw [token, if_neg (fun e => absurd e.1 (by decide)), if_neg (by decide), if_neg (by decide), if_neg (by decide), if_neg (by rintro (h | h); exact absurd h (by decide); exact absurd h.1 (by decide)), e]
    show (find [36, 113, 36] t).map _ = none
    rw [find_none _ t h36]; rfl
  · refine tokens_none (.inr ⟨36, 36 :: t, sk_first (by decide) (fun e => absurd e.1 (by decide)) (fun e => absurd e.1 (by decide)), ?_⟩)
    have e : tagOf (36 :: 36 :: t) = some [36, 36] := rfl
    rw [token, if_neg (fun e => absurd e.1 (by decide)), if_neg (by decide), if_neg (by decide), if_neg (by decide), if_neg (by rintro (h | h); exact absurd h (by decide); exact absurd h.1 (by decide)), e]
    show (find [36, 36] t).map _ = none
    rw [find_none _ t h36]; rfl

theorem ends_none (s : Bs) {o t : Bs} {L : List Tok} (h : tokens s = some L) (ho : o ∈ opened) (ht : Clean t) : tokens (s ++ 10 :: 32 :: (o ++ t)) = none := by
  rw [tokens_join s _ h, tokens_blank 32 _ (by decide), open_none ho ht]; rfl
end Go.Proofs.YtgopajddloeclaaDoor
