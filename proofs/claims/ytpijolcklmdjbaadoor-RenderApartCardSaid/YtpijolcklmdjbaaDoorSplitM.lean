/- The statements of a row of tokens; words in a row ahead of a text. -/
import Derived.Test.YtpijolcklmdjbaaDoorIndex
namespace Go.Proofs.YtpijolcklmdjbaaDoor

/-- The rows of tokens between the signs that part them. -/
def splitT : Nat → List Tok → List (List Tok)
  | 0, _ => []
  | f + 1, l => if l = [] then [] else (if semiAt l = 0 then [] else [l.take (semiAt l)]) ++ splitT f (l.drop (min (semiAt l + 1) l.length))

def splits (l : List Tok) : List (List Tok) := splitT l.length l

theorem splits_one {l : List Tok} (h : l ≠ []) (h0 : semiAt l ≠ 0) : ∃ r, splits l = l.take (semiAt l) :: r := by
  unfold splits
  cases l with
  | nil => exact absurd rfl h
  | cons t l =>
    rw [List.length_cons, splitT, if_neg h, if_neg h0]
    exact ⟨_, rfl⟩

theorem begins_snoc (x : Bs) : ∀ (W : List Bs) (l : List Tok), begins l (W ++ [x]) = true → ∃ q, l[W.length]? = some q ∧ q.text = x := by
  intro W
  induction W with
  | nil =>
    intro l h
    cases l with
    | nil => cases h
    | cons t l =>
      rw [List.nil_append, begins] at h
      simp only [Bool.and_eq_true, beq_iff_eq] at h
      exact ⟨t, rfl, h.1.2⟩
  | cons w W ih =>
    intro l h
    cases l with
    | nil => cases h
    | cons t l =>
      rw [List.cons_append, begins] at h
      simp only [Bool.and_eq_true] at h
      obtain ⟨q, hq, hx⟩ := ih l h.2
      exact ⟨q, by simpa using hq, hx⟩

/-- Tokens that are these words. -/
def Spell (A : List Tok) (W : List Bs) : Prop := A.map (fun t => (t.kind, t.text)) = W.map (fun x => ((119 : UInt8), x))

theorem begins_spell : ∀ (W : List Bs) (A B : List Tok), Spell A W → begins (A ++ B) W = true := by
  intro W
  induction W with
  | nil => intro A B _; cases (A ++ B) <;> rfl
  | cons w W ih =>
    intro A B h
    cases A with
    | nil => cases h
    | cons t A =>
      unfold Spell at h
      simp only [List.map_cons, List.cons.injEq, Prod.mk.injEq] at h
      rw [List.cons_append, begins, h.1.1, h.1.2, ih A B h.2]
      simp

theorem spell_length {A : List Tok} {W : List Bs} (h : Spell A W) : A.length = W.length := by
  have := congrArg List.length h
  simpa using this

theorem semiAt_spell : ∀ (W : List Bs) (A B : List Tok), Spell A W → semiAt (A ++ B) = W.length + semiAt B := by
  intro W
  induction W with
  | nil => intro A B h; have := spell_length h; rw [List.length_eq_zero_iff.1 this]; simp
  | cons w W ih =>
    intro A B h
    cases A with
    | nil => cases h
    | cons t A =>
      unfold Spell at h
      simp only [List.map_cons, List.cons.injEq, Prod.mk.injEq] at h
      rw [List.cons_append, semiAt_cons, if_neg (by unfold semi; rw [h.1.1]; simp), ih A B h.2, List.length_cons]
      omega

/-- The first statement of a text that begins with words begins with them. -/
theorem first_spell {W : List Bs} {A B : List Tok} (h : Spell A W) (hW : W ≠ []) : ∃ r, splits (A ++ B) = (A ++ B.take (semiAt B)) :: r := by
  have hl := spell_length h
  have h0 : 0 < W.length := List.length_pos_iff.2 hW
  obtain ⟨r, hr⟩ := splits_one (l := A ++ B) (by intro e; have := congrArg List.length e; simp at this; rw [this.1] at hl; simp at hl; omega) (by rw [semiAt_spell W A B h]; omega)
  refine ⟨r, ?_⟩
  rw [hr, semiAt_spell W A B h, ← hl, List.take_length_add_append]

def wordList : List Bs := [[115, 101, 116], [108, 111, 99, 97, 108], [98, 101, 103, 105, 110], [120]]
def between : Bs := [32, 47, 42, 32, 59, 32, 42, 47]
def wordsText (W : List Bs) : Bs := W.flatMap fun w => w ++ (between ++ [10])

theorem word_tokens {w : Bs} (h : w ∈ wordList) : tokens (w ++ between) = some [⟨119, w, 0, w.length⟩] := by
  simp only [wordList, List.mem_cons, List.not_mem_nil, or_false] at h
  rcases h with rfl | rfl | rfl | rfl <;> rfl

theorem spell_moved {A : List Tok} {W : List Bs} (h : Spell A W) (k : Nat) : Spell (A.map (moved k)) W := by
  unfold Spell at h ⊢
  rw [← h, List.map_map]; rfl

theorem tokens_words : ∀ (W : List Bs), (∀ w ∈ W, w ∈ wordList) → ∀ more : Bs, ∃ A k, Spell A W ∧ tokens (wordsText W ++ more) = (tokens more).map fun R => A ++ R.map (moved k) := by
  intro W
  induction W with
  | nil =>
    intro _ more
    refine ⟨[], 0, rfl, ?_⟩
    show tokens more = _
    cases tokens more with
    | none => rfl
    | some R =>
      show some R = some ([] ++ R.map (moved 0))
      rw [List.nil_append]
      congr 1
      conv => lhs; rw [← List.map_id R]
      exact List.map_congr_left fun q _ => rfl
  | cons w W ih =>
    intro h more
    obtain ⟨A, k, hA, ht⟩ := ih (fun x hx => h x (List.mem_cons_of_mem _ hx)) more
    have hj := tokens_join (w ++ between) (wordsText W ++ more) (word_tokens (h w (List.mem_cons_self ..)))
    refine ⟨⟨119, w, 0, w.length⟩ :: A.map (moved ((w ++ between).length + 1)), k + ((w ++ between).length + 1), ?_, ?_⟩
    · show (119, w) :: _ = (119, w) :: _
      rw [show (A.map (moved ((w ++ between).length + 1))).map (fun t => (t.kind, t.text)) = W.map (fun x => ((119 : UInt8), x)) from spell_moved hA _]
    · rw [show wordsText (w :: W) ++ more = (w ++ between) ++ 10 :: (wordsText W ++ more) by simp [wordsText], hj, ht, Option.map_map]
      congr 1
      funext R
      simp only [Function.comp, List.map_append, List.map_map]
      rw [List.cons_append, List.nil_append, List.cons_append]
      congr 2
      refine List.map_congr_left fun q _ => ?_
      show (⟨q.kind, q.text, q.lo + k + _, q.hi + k + _⟩ : Tok) = ⟨q.kind, q.text, q.lo + (k + _), q.hi + (k + _)⟩
      congr 1 <;> omega
end Go.Proofs.YtpijolcklmdjbaaDoor
