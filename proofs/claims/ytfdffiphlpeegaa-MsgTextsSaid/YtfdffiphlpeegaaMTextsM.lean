/- Messages of one text and of two. -/
import Derived.Test.YtfdffiphlpeegaaMShown
namespace Go.Proofs.Ytfdffiphlpeegaa
open Go.RowKit Go.Lib Go.WideShapes

theorem text_step (t : Bs) (T : List Bs) (N : List Int) (B : Bs) : wText ⟨t :: T, N, B⟩ = if (0 : UInt8) ∈ t then none else some ⟨T, N, B ++ (t ++ [0])⟩ := rfl
theorem written_one (s : Bs) : written false 81 [s] [] = if (0 : UInt8) ∈ s then none else some (s ++ [0]) := by
  show ((wText ⟨[s], [], []⟩).bind (wAll [])).bind wDone = _
  rw [text_step]
  by_cases h : (0 : UInt8) ∈ s
  · rw [if_pos h, if_pos h]; rfl
  · rw [if_neg h, if_neg h]; rfl
theorem written_two (s t : Bs) : written true 83 [s, t] [] = if (0 : UInt8) ∈ s then none else if (0 : UInt8) ∈ t then none else some (s ++ [0] ++ (t ++ [0])) := by
  show ((wText ⟨[s, t], [], []⟩).bind (wAll [115])).bind wDone = _
  rw [text_step]
  by_cases h : (0 : UInt8) ∈ s
  · rw [if_pos h, if_pos h]; rfl
  · rw [if_neg h, if_neg h]
    show ((wText ⟨[t], [], [] ++ (s ++ [0])⟩).bind (wAll [])).bind wDone = _
    rw [text_step]
    by_cases h2 : (0 : UInt8) ∈ t
    · rw [if_pos h2, if_pos h2]; rfl
    · rw [if_neg h2, if_neg h2]; rfl
end Go.Proofs.Ytfdffiphlpeegaa
