/- Contracts and mathematics: PWritesM. -/
import Derived.Test.YtpijolcklmdjbaaGreatDoorZ27
namespace Go.Proofs.YtpijolcklmdjbaaGreatDoor
open Go.RowKit Go.Lib Go.WideShapes

/-- A name in full. -/
def fullB (l : Bs) : Bs := if (46 : UInt8) ∈ l then identB (Lib.cut l [46]).1 ++ 46 :: identB (Lib.cut l [46]).2.1 else identB l
def identK (s : Bs) : UInt8 := if partB s && !takenB s then 119 else 113

/-- The tokens of a name in full. -/
structure NameK (name : Bs) (K : List (UInt8 × Bs)) : Prop where
  head : ∃ a R, K = (identK a, a) :: R
  free : sgn ∉ K
  read : ∀ rest, Ends rest → kts (fullB name ++ rest) = (kts rest).map (K ++ ·)
  take : ∀ R : List (UInt8 × Bs), R.head? ≠ some (111, [46]) → takeB ((K ++ R).map mk) = (name, K.length)

theorem good_cases {l : Bs} (h : goodB l = true) : (46 : UInt8) ∉ l ∨ ∃ a b, l = a ++ 46 :: b ∧ partB a = true ∧ partB b = true := by
  by_cases hd : (46 : UInt8) ∈ l
  · obtain ⟨a, b, rfl, hn⟩ := cut_back hd
    rw [goodB_two hn] at h
    simp only [Bool.and_eq_true] at h
    exact .inr ⟨a, b, rfl, h.2.1, h.2.2⟩
  · exact .inl hd
theorem full_length (l : Bs) : (fullB l).length ≤ 2 * l.length + 4 := by
  unfold fullB
  by_cases hd : (46 : UInt8) ∈ l
  · rw [if_pos hd]
    obtain ⟨a, b, rfl, hn⟩ := cut_back hd
    rw [cut_at hn]
    have h1 := ident_length a
    have h2 := ident_length b
    rw [List.length_append, List.length_cons, List.length_append, List.length_cons]
    show (identB a).length + ((identB b).length + 1) ≤ _
    omega
  · rw [if_neg hd]
    have := ident_length l; omega
end Go.Proofs.YtpijolcklmdjbaaGreatDoor
