/- A sign that parts, in a text, a name, a comment: mathematics. -/
import Derived.Test.YtpijolcklmdjbaaDoorFields
import Derived.Test.YtpijolcklmdjbaaDoorSplitM
namespace Go.Proofs.YtpijolcklmdjbaaDoor

theorem sk_comment (r : Bs) : ∀ t : Bs, (42 : UInt8) ∉ t → (47 : UInt8) ∉ t → sk (t ++ 42 :: 47 :: r) 3 = sk r 0 := by
  intro t
  induction t with
  | nil => intro _ _; rw [List.nil_append, sk]; simp
  | cons a t ih =>
    intro h1 h2
    simp only [List.mem_cons, not_or] at h1 h2
    have := ih h1.2 h2.2
    cases hl : t ++ 42 :: 47 :: r with
    | nil => simp at hl
    | cons b q =>
      rw [hl] at this
      rw [List.cons_append, hl, sk]
      rw [if_neg (fun e => h2.1 e.1.symm), if_neg (fun e => h1.1 e.1.symm)]
      exact this

theorem quoted_read (t rest : Bs) (h : rest.head? ≠ some 39) : ∃ a q, quoted 39 t ++ rest = a :: q ∧ sk (a :: q) 0 = some (a :: q) ∧ token (a :: q) = some (115, t, rest) := by
  refine ⟨39, doubled 39 t ++ 39 :: rest, by unfold quoted; simp, ?_, token_text_read t rest h⟩
  exact sk_first (by decide) (fun e => by cases e.1) (fun e => by cases e.1)
theorem quoted_name_read (t rest : Bs) (h0 : t ≠ []) (h : rest.head? ≠ some 34) : ∃ a q, quoted 34 t ++ rest = a :: q ∧ sk (a :: q) 0 = some (a :: q) ∧ token (a :: q) = some (113, t, rest) := by
  refine ⟨34, doubled 34 t ++ 34 :: rest, by unfold quoted; simp, ?_, token_name_read t rest h0 h⟩
  exact sk_first (by decide) (fun e => by cases e.1) (fun e => by cases e.1)

/-- A text and a name as text. -/
theorem fields_two (s x : Bs) : fieldsB [⟨115, s, 0, 0⟩, ⟨113, x, 0, 0⟩] = quoted 39 s ++ 32 :: quoted 34 x := by
  simp [fieldsB, fieldT]

theorem two_kts (s x rest : Bs) (hx : x ≠ []) (h : rest.head? ≠ some 34) : kts (quoted 39 s ++ 32 :: (quoted 34 x ++ rest)) = (kts rest).map fun K => (115, s) :: (113, x) :: K := by
  obtain ⟨a, q, e1, h1, h2⟩ := quoted_read s (32 :: (quoted 34 x ++ rest)) (by simp)
  obtain ⟨a', q', e3, h3, h4⟩ := quoted_name_read x rest hx h
  rw [e1, kts_step h1 h2]
  have : kts (32 :: (quoted 34 x ++ rest)) = (kts rest).map ((113, x) :: ·) := by
    rw [e3]
    exact kts_step (by rw [sk_blank' _ _ (by decide)]; exact h3) h4
  rw [this, Option.map_map]; rfl

theorem signs_kts (s y x : Bs) (h1 : (42 : UInt8) ∉ s) (h2 : (47 : UInt8) ∉ s) (hx : x ≠ []) : kts (120 :: 32 :: 47 :: 42 :: 32 :: 59 :: 32 :: (s ++ 42 :: 47 :: (quoted 39 y ++ 32 :: (quoted 34 x ++ [59, 121, 45, 45, 59])))) = some [(119, [120]), (115, y), (113, x), (111, [59]), (119, [121])] := by
  have e0 : kts (120 :: 32 :: 47 :: 42 :: 32 :: 59 :: 32 :: (s ++ 42 :: 47 :: (quoted 39 y ++ 32 :: (quoted 34 x ++ [59, 121, 45, 45, 59])))) = (kts (32 :: 47 :: 42 :: 32 :: 59 :: 32 :: (s ++ 42 :: 47 :: (quoted 39 y ++ 32 :: (quoted 34 x ++ [59, 121, 45, 45, 59]))))).map ((119, [120]) :: ·) :=
    kts_step (sk_first (by decide) (fun e => by cases e.1) (fun e => by cases e.1)) (token_word_read 120 [] _ (by decide) (fun c hc => by simp at hc; subst hc; exact ⟨rfl, rfl⟩) (by simp) (by simp) (fun c hc => by simp at hc; subst hc; rfl))
  have hsk : sk (32 :: 47 :: 42 :: 32 :: 59 :: 32 :: (s ++ 42 :: 47 :: (quoted 39 y ++ 32 :: (quoted 34 x ++ [59, 121, 45, 45, 59])))) 0 = sk (quoted 39 y ++ 32 :: (quoted 34 x ++ [59, 121, 45, 45, 59])) 0 := by
    rw [sk_blank' _ _ (by decide)]
    show sk ((32 :: 59 :: 32 :: s) ++ 42 :: 47 :: (quoted 39 y ++ 32 :: (quoted 34 x ++ [59, 121, 45, 45, 59]))) 3 = _
    exact sk_comment _ _ (by simp [h1]) (by simp [h2])
  have e1 : kts (32 :: 47 :: 42 :: 32 :: 59 :: 32 :: (s ++ 42 :: 47 :: (quoted 39 y ++ 32 :: (quoted 34 x ++ [59, 121, 45, 45, 59])))) = kts (quoted 39 y ++ 32 :: (quoted 34 x ++ [59, 121, 45, 45, 59])) := by
    obtain ⟨a, q, e1, h1, h2⟩ := quoted_read y (32 :: (quoted 34 x ++ [59, 121, 45, 45, 59])) (by simp)
    rw [kts_step (by rw [hsk, e1]; exact h1) h2, e1, kts_step h1 h2]
  have e2 : kts [59, 121, 45, 45, 59] = some [(111, [59]), (119, [121])] := by rfl
  rw [e0, e1, two_kts y x _ hx (by simp), e2]; rfl

theorem semiAt_nil : semiAt [] = 0 := rfl
/-- Three tokens, the sign, one more. -/
theorem splits_signs {L : List Tok} {y x : Bs} (h : L.map kt = [(119, [120]), (115, y), (113, x), (111, [59]), (119, [121])]) : ∃ q0 q1 q2 q4, splits L = [[q0, q1, q2], [q4]] ∧ kt q0 = (119, [120]) ∧ kt q1 = (115, y) ∧ kt q4 = (119, [121]) := by
  have hl := congrArg List.length h
  match L, hl with
  | [q0, q1, q2, q3, q4], _ =>
    simp only [List.map_cons, List.map_nil, List.cons.injEq, and_true] at h
    obtain ⟨e0, e1, e2, e3, e4⟩ := h
    have s0 : semi q0 = false := by unfold semi; rw [show q0.kind = 119 from congrArg Prod.fst e0]; rfl
    have s1 : semi q1 = false := by unfold semi; rw [show q1.kind = 115 from congrArg Prod.fst e1]; rfl
    have s2 : semi q2 = false := by unfold semi; rw [show q2.kind = 113 from congrArg Prod.fst e2]; rfl
    have s3 : semi q3 = true := by unfold semi; rw [show q3.kind = 111 from congrArg Prod.fst e3, show q3.text = [59] from congrArg Prod.snd e3]; rfl
    have s4 : semi q4 = false := by unfold semi; rw [show q4.kind = 119 from congrArg Prod.fst e4]; rfl
    refine ⟨q0, q1, q2, q4, ?_, e0, e1, e4⟩
    simp [splits, splitT, semiAt_cons, s0, s1, s2, s3, s4, semiAt_nil]
end Go.Proofs.YtpijolcklmdjbaaDoor
