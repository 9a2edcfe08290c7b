/- The laws' texts, and the order. -/
import Derived.Test.YtdlhmcogpmdonaaGreatDoorRTexts
import Derived.Test.YtdlhmcogpmdonaaGreatDoorROrdM
namespace Go.Proofs.YtdlhmcogpmdonaaGreatDoor
open Go.RowKit Go.Lib Go.WideShapes

theorem txt_at (n : Int) (w : World) (hn : -9223372036854775808 ≤ n ∧ n ≤ 9223372036854775807) :
    Calls Tryz.prog 17 #[.int .i64 n] w fun e w' => e = .returned (.string ⟨(txt (negI n) (magI n)).toArray⟩) ∧ Below w.heap.size w w' :=
  (text_any n w hn).mono fun e w' h => ⟨h.1, by obtain ⟨_, rfl⟩ := h; exact Below.refl _ _⟩
theorem min_at (s : ByteArray) (neg : Bool) (v : Nat) (w : World) (hs : bytes s = txt neg v) :
    Calls Tryz.prog 18 #[.string s] w fun e w' => e = .returned (.string ⟨(txt (!neg) v).toArray⟩) ∧ Below w.heap.size w w' :=
  (minus_any s neg v w hs).mono fun e w' h => ⟨h.1, by obtain ⟨_, rfl⟩ := h; exact Below.refl _ _⟩
theorem key_not (s : Bool) (X : Nat) : (Num.fin (!s) X).key = -(Num.fin s X).key := by cases s <;> simp [Num.key]
theorem cmp_not (s t : Bool) (X Y : Nat) : (Num.fin (!s) X).cmp (.fin (!t) Y) = -((Num.fin s X).cmp (.fin t Y)) := by
  have h1 := cmp_sign (.fin (!s) X) (.fin (!t) Y); have h2 := cmp_sign (.fin s X) (.fin t Y)
  rw [key_not, key_not] at h1
  omega
theorem cmp_nan {s : Bool} {X : Nat} (h : X < 1000000000000000) : Num.nan.cmp (.fin s X) = 1 := by
  have h1 := cmp_sign .nan (.fin s X)
  rw [show Num.nan.key = 2000000000000000 from rfl] at h1
  have : (Num.fin s X).key < 1000000000000000 := by
    cases s
    · show (X : Int) < _; omega
    · show -(X : Int) < _; omega
  omega
theorem cmp_infp {s : Bool} {X : Nat} (h : X < 1000000000000000) : (Num.inf false).cmp (.fin s X) = 1 := by
  have h1 := cmp_sign (.inf false) (.fin s X)
  rw [show (Num.inf false).key = 1000000000000000 from rfl] at h1
  have : (Num.fin s X).key < 1000000000000000 := by
    cases s
    · show (X : Int) < _; omega
    · show -(X : Int) < _; omega
  omega
theorem cmp_infn {s : Bool} {X : Nat} (h : X < 1000000000000000) : (Num.inf true).cmp (.fin s X) = -1 := by
  have h1 := cmp_sign (.inf true) (.fin s X)
  rw [show (Num.inf true).key = -1000000000000000 from rfl] at h1
  have : -1000000000000000 < (Num.fin s X).key := by
    cases s
    · show _ < (X : Int); omega
    · show _ < -(X : Int); omega
  omega
end Go.Proofs.YtdlhmcogpmdonaaGreatDoor
