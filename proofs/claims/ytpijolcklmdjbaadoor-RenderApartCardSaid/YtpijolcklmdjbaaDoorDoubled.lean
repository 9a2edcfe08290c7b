/- Each of a byte in a text twice: strings.ReplaceAll's answer there. -/
import Derived.Test.YtpijolcklmdjbaaDoorSkip
import Derived.Deep.LoopGhost
namespace Go.Proofs.YtpijolcklmdjbaaDoor
open Go.RowKit Go.Lib Go.WideShapes

/-- Each c in it twice. -/
def doubled (c : UInt8) : Bs → Bs
  | [] => []
  | b :: r => if b = c then c :: c :: doubled c r else b :: doubled c r

theorem doubled_none (c : UInt8) : ∀ l : Bs, l.count c = 0 → doubled c l = l := by
  intro l
  induction l with
  | nil => intro _; rfl
  | cons b r ih =>
    intro h
    rw [List.count_cons] at h
    by_cases hb : b = c
    · subst hb; simp at h
    · rw [doubled, if_neg hb, ih (by omega)]

theorem doubled_length (c : UInt8) : ∀ l : Bs, (doubled c l).length = l.length + l.count c := by
  intro l
  induction l with
  | nil => rfl
  | cons b r ih =>
    rw [List.count_cons, doubled]
    by_cases hb : b = c
    · subst hb; simp [ih]; omega
    · rw [if_neg hb, if_neg (by simpa using hb)]; simp [ih]; omega

theorem doubled_append (c : UInt8) : ∀ a b : Bs, doubled c (a ++ b) = doubled c a ++ doubled c b := by
  intro a b
  induction a with
  | nil => rfl
  | cons x r ih =>
    rw [List.cons_append, doubled, doubled, ih]
    by_cases hx : x = c
    · rw [if_pos hx, if_pos hx]; rfl
    · rw [if_neg hx, if_neg hx]; rfl

/-- Where the first one stands. -/
theorem index_first (c : UInt8) : ∀ l : Bs, 0 < l.count c → ∃ k : Nat, indexByte l c = k ∧ k < l.length ∧ doubled c l = l.take k ++ ([c, c] ++ doubled c (l.drop (k + 1))) ∧ l.count c = (l.drop (k + 1)).count c + 1 := by
  intro l
  induction l with
  | nil => intro h; simp at h
  | cons b r ih =>
    intro h
    by_cases hb : b = c
    · subst hb
      refine ⟨0, by simp [indexByte], by simp, by simp [doubled], by simp⟩
    · rw [List.count_cons_of_ne (by simpa using hb)] at h
      obtain ⟨k, h1, h2, h3, h4⟩ := ih h
      refine ⟨k + 1, ?_, by simpa using h2, ?_, ?_⟩
      · have hb' : (b == c) = false := by simpa using hb
        simp only [indexByte]
        simp [hb, h1]
      · rw [doubled, if_neg hb, h3]; simp
      · rw [List.count_cons_of_ne (by simpa using hb), h4]; simp

theorem replaceK_doubled (c : UInt8) : ∀ (k : Nat) (l : Bs), l.count c = k → Lib.replaceK [c] [c, c] k l = doubled c l := by
  intro k
  induction k with
  | zero => intro l h; rw [doubled_none c l h]; rfl
  | succ k ih =>
    intro l h
    obtain ⟨i, h1, h2, h3, h4⟩ := index_first c l (by omega)
    rw [Lib.replaceK_hit _ _ _ _ i (by rw [Lib.index_one]; exact h1), h3, ih _ (by simpa using (by omega : (l.drop (i + 1)).count c = k))]
    simp

theorem replaceAll_doubled (c : UInt8) (l : Bs) : Lib.replaceAll l [c] [c, c] = doubled c l := by
  unfold Lib.replaceAll Lib.replace
  rw [if_neg (by simp), Lib.replaceNum, if_pos (.inl (by decide)), Lib.count_one]
  exact replaceK_doubled c _ l rfl

theorem countB_one (s : ByteArray) (c : UInt8) : Lib.countB s ⟨#[c]⟩ ≤ s.size := by
  have h : Lib.countB s ⟨#[c]⟩ = (bytes s).count c := by
    first
      | exact Lib.count_one c _
      | (unfold Lib.countB; exact Lib.count_one c _)
  rw [h, ← bytes_len s]; exact List.count_le_length

theorem str_cat (a b : Bs) : (⟨a.toArray⟩ : ByteArray) ++ ⟨b.toArray⟩ = ⟨(a ++ b).toArray⟩ := by
  apply ByteArray.ext
  rw [ByteArray.data_append]
  simp
theorem str_size (a : Bs) : (⟨a.toArray⟩ : ByteArray).size = a.length := by simp [ByteArray.size]


def quoted (c : UInt8) (l : Bs) : Bs := c :: (doubled c l ++ [c])
end Go.Proofs.YtpijolcklmdjbaaDoor
