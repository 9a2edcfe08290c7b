/- A text between quotes, a name, a text of a tag: mathematics. -/
import Derived.Test.YtckimeikiakfcaaDoorSignsM
namespace Go.Proofs.YtckimeikiakfcaaDoor

theorem counts_le (a b : UInt8) (h : a ≠ b) : ∀ l : Bs, l.count a + l.count b ≤ l.length := by
  intro l
  induction l with
  | nil => simp
  | cons x r ih =>
    rw [List.count_cons, List.count_cons, List.length_cons]
    by_cases h1 : x = a
    · have h2 : ¬ x = b := fun e => h (h1.symm.trans e)
      simp [h1, show ¬ a = b from h]; omega
    · by_cases h2 : x = b
      · simp [h2, show ¬ b = a from fun e => h e.symm]; omega
      · simp [h1, h2]; omega

theorem quotes_kts (s x : Bs) (hx : x ≠ []) : kts (quoted 39 s ++ 32 :: quoted 34 x) = some [(115, s), (113, x)] := by
  have := two_kts s x [] hx (by simp)
  rw [List.append_nil] at this
  rw [this, show kts [] = some [] from rfl]; rfl

/-- Where the tag does not stand. -/
def NoTag (s : Bs) : Prop := (∀ i, i + 3 ≤ s.length → (s.drop i).take 3 ≠ [36, 113, 36]) ∧ (2 ≤ s.length → s.drop (s.length - 2) ≠ [36, 113])

theorem find_at (rest : Bs) : ∀ s : Bs, NoTag s → find [36, 113, 36] (s ++ 36 :: 113 :: 36 :: rest) = some s.length := by
  intro s
  induction s with
  | nil => intro _; rfl
  | cons a s ih =>
    intro h
    have hs : NoTag s := by
      refine ⟨fun i hi => ?_, fun h2 => ?_⟩
      · have := h.1 (i + 1) (by simp; omega)
        simpa using this
      · have := h.2 (by simp; omega)
        rwa [List.length_cons, show s.length + 1 - 2 = (s.length - 2) + 1 by omega, List.drop_succ_cons] at this
    have hp : ([36, 113, 36] : Bs).isPrefixOf (a :: (s ++ 36 :: 113 :: 36 :: rest)) = false := by
      rw [← Bool.not_eq_true]
      intro hp
      match s, h with
      | [], _ => simp [List.isPrefixOf] at hp
      | [b], h =>
        simp [List.isPrefixOf] at hp
        exact h.2 (by simp) (by simp [hp.1.symm, hp.2.symm])
      | b :: c :: q, h =>
        simp [List.isPrefixOf] at hp
        exact h.1 0 (by simp) (by simp [hp.1.symm, hp.2.1.symm, hp.2.2.symm])
    rw [List.cons_append, find, if_neg (by rw [hp]; decide), ih hs]; rfl

theorem token_tag_read (s : Bs) (h : NoTag s) : token (36 :: 113 :: 36 :: (s ++ [36, 113, 36, 45, 45])) = some (115, s, [45, 45]) := by
  have ht : tagOf (36 :: 113 :: 36 :: (s ++ [36, 113, 36, 45, 45])) = some [36, 113, 36] := rfl
  rw [token_cons, if_neg (by intro e; rcases e.1 with e | e <;> cases e), if_neg (by decide), if_neg (by decide), if_neg (by decide), if_neg (by intro e; rcases e with e | e; cases e; cases e.1), ht]
  show (find [36, 113, 36] (s ++ 36 :: 113 :: 36 :: [45, 45])).map _ = _
  rw [find_at [45, 45] s h]
  show some ((115 : UInt8), (s ++ [36, 113, 36, 45, 45]).take s.length, (36 :: 113 :: 36 :: (s ++ [36, 113, 36, 45, 45])).drop (3 + s.length + 3)) = _
  rw [List.take_left' rfl, show 3 + s.length + 3 = (s.length + 3) + 1 + 1 + 1 by omega, List.drop_succ_cons, List.drop_succ_cons, List.drop_succ_cons, ← List.drop_drop, List.drop_left' rfl]
  rfl

theorem tag_kts (s : Bs) (h : NoTag s) : kts (47 :: 42 :: 32 :: 120 :: 32 :: 42 :: 47 :: 32 :: 36 :: 113 :: 36 :: (s ++ [36, 113, 36, 45, 45])) = some [(115, s)] := by
  have hsk : sk (47 :: 42 :: 32 :: 120 :: 32 :: 42 :: 47 :: 32 :: 36 :: 113 :: 36 :: (s ++ [36, 113, 36, 45, 45])) 0 = some (36 :: 113 :: 36 :: (s ++ [36, 113, 36, 45, 45])) := by
    show sk ([32, 120, 32] ++ 42 :: 47 :: (32 :: 36 :: 113 :: 36 :: (s ++ [36, 113, 36, 45, 45]))) 3 = _
    rw [sk_comment _ _ (by decide) (by decide), sk_blank' _ _ (by decide)]
    exact sk_first (by decide) (fun e => by cases e.1) (fun e => by cases e.1)
  rw [kts_step hsk (token_tag_read s h), show kts [45, 45] = some [] from rfl]; rfl
end Go.Proofs.YtckimeikiakfcaaDoor
