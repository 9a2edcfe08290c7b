/- A message, a frame, as the document's own. -/
import Derived.Test.YtfdffiphlpeegaaMShown
namespace Go.Proofs.Ytfdffiphlpeegaa
open Go.RowKit Go.Lib Go.WideShapes

set_option maxHeartbeats 4000000 in
theorem as_any (w : World) (k : Int) (ta na : Option Addr) (tn tc nn nc : Nat) :
    Calls Try.prog 10 #[.agg #[.int .u8 k, .slice ta tn tc, .slice na nn nc]] w fun e w' => e = .returned (.agg #[.int .u8 k, .slice ta tn tc, .slice na nn nc]) ∧ Below w.heap.size w w' := by
  go_enter Try.func10, Try.ntmps10
  go_wp2_with fail
  simp [bodyPost, results, Try.results10, go_sem]
  first | exact ((Below.refl _ _).alloc (Nat.le_refl _) _).drew | exact ((Below.refl _ _).alloc (Nat.le_refl _) _).alloc (by simp) _ | exact ((((Below.refl _ _).alloc (Nat.le_refl _) _).alloc (by simp) _).setCell (by simp) _) | exact (((((Below.refl _ _).alloc (Nat.le_refl _) _).alloc (by simp) _).setCell (by simp) _).setCell (by simp) _) | exact ((((((Below.refl _ _).alloc (Nat.le_refl _) _).alloc (by simp) _).setCell (by simp) _).setCell (by simp) _).setCell (by simp) _)

set_option maxHeartbeats 4000000 in
theorem asframe_any (w : World) (k : Int) (s : ByteArray) :
    Calls Try.prog 15 #[.agg #[.int .u8 k, .string s]] w fun e w' => e = .returned (.agg #[.int .u8 k, .string s]) ∧ Below w.heap.size w w' := by
  go_enter Try.func15, Try.ntmps15
  go_wp2_with fail
  simp [bodyPost, results, Try.results15, go_sem]
  first | exact ((Below.refl _ _).alloc (Nat.le_refl _) _).drew | exact ((Below.refl _ _).alloc (Nat.le_refl _) _).alloc (by simp) _ | exact ((((Below.refl _ _).alloc (Nat.le_refl _) _).alloc (by simp) _).setCell (by simp) _) | exact (((((Below.refl _ _).alloc (Nat.le_refl _) _).alloc (by simp) _).setCell (by simp) _).setCell (by simp) _) | exact ((((((Below.refl _ _).alloc (Nat.le_refl _) _).alloc (by simp) _).setCell (by simp) _).setCell (by simp) _).setCell (by simp) _)
end Go.Proofs.Ytfdffiphlpeegaa
