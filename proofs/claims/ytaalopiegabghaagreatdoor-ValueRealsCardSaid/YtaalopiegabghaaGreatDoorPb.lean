/- Growing worlds, and the bytes of a text by their places: general tools. No program is named here. -/
import Derived.Test.YtaalopiegabghaaGreatDoorScanM
import Derived.Test.YtaalopiegabghaaGreatDoorBase
namespace Go.Proofs.YtaalopiegabghaaGreatDoor
open Go.RowKit Go.Lib Go.WideShapes

theorem grow_refl (w : World) (r : Option Nat) : w.grownBy w r := ⟨rfl, rfl, rfl, Nat.le_refl _, fun _ _ _ => rfl⟩
theorem grow_drewN (w : World) (n : Nat) (r : Option Nat) : w.grownBy (w.drewN n) r := ⟨rfl, rfl, rfl, Nat.le_refl _, fun _ _ _ => rfl⟩
theorem grow_trans {w w1 w3 : World} {r : Option Nat} (h : w.grownBy w1 r) (hg : w1.grownBy w3 r) : w.grownBy w3 r := by
  have h1 := h.size
  have h2 := hg.size
  exact ⟨hg.os.trans h.os, hg.tape.trans h.tape, hg.output.trans h.output, by omega, fun j hj hne => (hg.block j (by omega) hne).trans (h.block j hj hne)⟩
theorem grow_below {w w' : World} (h : Below w.heap.size w w') (r : Option Nat) : w.grownBy w' r := ⟨h.os, h.tape, h.output, h.size, fun k hk _ => h.block k hk⟩
theorem grow_some {w w' : World} (h : w.grownBy w' none) (r : Option Nat) : w.grownBy w' r := ⟨h.os, h.tape, h.output, h.size, fun k hk _ => h.block k hk (by simp)⟩

/-- The byte at a place, as a number; nought behind the end. -/
def pb (s : ByteArray) (j : Nat) : Nat := (s.data.toList.getD j 0).toNat
theorem pb_at (s : ByteArray) (j : Nat) (h : j < s.size) : (s[j]'h).toNat = pb s j := by
  unfold pb
  rw [List.getD, List.getElem?_eq_getElem (show j < s.data.toList.length by simpa using h)]
  rfl
theorem pb_out (s : ByteArray) (j : Nat) (h : s.size ≤ j) : pb s j = 0 := by
  unfold pb
  rw [List.getD, List.getElem?_eq_none (show s.data.toList.length ≤ j by simpa using h)]
  rfl
theorem pb_lt (s : ByteArray) (j : Nat) : pb s j < 256 := UInt8.toNat_lt _
end Go.Proofs.YtaalopiegabghaaGreatDoor
