/- Contracts and mathematics: Skip, Doubled. -/
import Derived.Test.YtpijolcklmdjbaaGreatDoorZ8
import Derived.Test.YtpijolcklmdjbaaGreatDoorShelf
import Derived.Deep.LoopGhost
namespace Go.Proofs.YtpijolcklmdjbaaGreatDoor
open Go.RowKit Go.Lib Go.WideShapes


/-- The cursor has gone on to j. -/
def Moved (p : Nat) (s : ByteArray) (w : World) (j : Nat) (v : Value) (e : Ending) (w' : World) : Prop := e = .returned v ∧ Cur w' p s j ∧ w.grownBy w' (some p)
/-- It panics. -/
def Stuck (p : Nat) (s : ByteArray) (w : World) (e : Ending) (w' : World) : Prop := e = .panicked [{ v := .iface 26 (.int .i64 2), recovered := false }] ∧ (∃ j, Cur w' p s j) ∧ w.grownBy w' (some p)

/-- The cursor has gone on to where r stands, or it panics. -/
def Opt (p : Nat) (s : ByteArray) (w : World) (R : Option Bs) (e : Ending) (w' : World) : Prop := (∀ r, R = some r → Moved p s w (s.size - r.length) (.tuple #[]) e w') ∧ (R = none → Stuck p s w e w')

theorem Opt.some {p : Nat} {s : ByteArray} {w w' : World} {r : Bs} {e : Ending} (h : Moved p s w (s.size - r.length) (.tuple #[]) e w') : Opt p s w (some r) e w' := ⟨fun _ hr => (by cases hr; exact h), fun hr => (by cases hr)⟩
theorem Opt.none {p : Nat} {s : ByteArray} {w w' : World} {e : Ending} (h : Stuck p s w e w') : Opt p s w .none e w' := ⟨fun r hr => (by cases hr), fun _ => h⟩

end Go.Proofs.YtpijolcklmdjbaaGreatDoor

namespace Go.Proofs.YtpijolcklmdjbaaGreatDoor
open Go.RowKit Go.Lib Go.WideShapes

/-- Each c in it twice. -/
def doubled (c : UInt8) : Bs → Bs
  | [] => []
  | b :: r => if b = c then c :: c :: doubled c r else b :: doubled c r

theorem doubled_none (c : UInt8) : ∀ l : Bs, l.count c = 0 → doubled c l = l := by
  intro l
  induction l with
  | nil => intro _; rfl
  | cons b r ih =>
    intro h
    rw [List.count_cons] at h
    by_cases hb : b = c
    · subst hb; simp at h
    · rw [doubled, if_neg hb, ih (by omega)]

theorem doubled_length (c : UInt8) : ∀ l : Bs, (doubled c l).length = l.length + l.count c := by
  intro l
  induction l with
  | nil => rfl
  | cons b r ih =>
    rw [List.count_cons, doubled]
    by_cases hb : b = c
    · subst hb; simp [ih]; omega
    · rw [if_neg hb, if_neg (by simpa using hb)]; simp [ih]; omega

/-- Where the first one stands. -/
theorem index_first (c : UInt8) : ∀ l : Bs, 0 < l.count c → ∃ k : Nat, indexByte l c = k ∧ k < l.length ∧ doubled c l = l.take k ++ ([c, c] ++ doubled c (l.drop (k + 1))) ∧ l.count c = (l.drop (k + 1)).count c + 1 := by
  intro l
  induction l with
  | nil => intro h; simp at h
  | cons b r ih =>
    intro h
    by_cases hb : b = c
    · subst hb
      refine ⟨0, by simp [indexByte], by simp, by simp [doubled], by simp⟩
    · rw [List.count_cons_of_ne (by simpa using hb)] at h
      obtain ⟨k, h1, h2, h3, h4⟩ := ih h
      refine ⟨k + 1, ?_, by simpa using h2, ?_, ?_⟩
      · have hb' : (b == c) = false := by simpa using hb
        simp only [indexByte]
        simp [hb, h1]
      · rw [doubled, if_neg hb, h3]; simp
      · rw [List.count_cons_of_ne (by simpa using hb), h4]; simp

theorem replaceK_doubled (c : UInt8) : ∀ (k : Nat) (l : Bs), l.count c = k → Lib.replaceK [c] [c, c] k l = doubled c l := by
  intro k
  induction k with
  | zero => intro l h; rw [doubled_none c l h]; rfl
  | succ k ih =>
    intro l h
    obtain ⟨i, h1, h2, h3, h4⟩ := index_first c l (by omega)
    rw [Lib.replaceK_hit _ _ _ _ i (by rw [Lib.index_one]; exact h1), h3, ih _ (by simpa using (by omega : (l.drop (i + 1)).count c = k))]
    simp

theorem replaceAll_doubled (c : UInt8) (l : Bs) : Lib.replaceAll l [c] [c, c] = doubled c l := by
  unfold Lib.replaceAll Lib.replace
  rw [if_neg (by simp), Lib.replaceNum, if_pos (.inl (by decide)), Lib.count_one]
  exact replaceK_doubled c _ l rfl

theorem countB_one (s : ByteArray) (c : UInt8) : Lib.countB s ⟨#[c]⟩ ≤ s.size := by
  have h : Lib.countB s ⟨#[c]⟩ = (bytes s).count c := by
    first
      | exact Lib.count_one c _
      | (unfold Lib.countB; exact Lib.count_one c _)
  rw [h, ← bytes_len s]; exact List.count_le_length

theorem str_cat (a b : Bs) : (⟨a.toArray⟩ : ByteArray) ++ ⟨b.toArray⟩ = ⟨(a ++ b).toArray⟩ := by
  apply ByteArray.ext
  rw [ByteArray.data_append]
  simp
theorem str_size (a : Bs) : (⟨a.toArray⟩ : ByteArray).size = a.length := by simp [ByteArray.size]


def quoted (c : UInt8) (l : Bs) : Bs := c :: (doubled c l ++ [c])
end Go.Proofs.YtpijolcklmdjbaaGreatDoor
