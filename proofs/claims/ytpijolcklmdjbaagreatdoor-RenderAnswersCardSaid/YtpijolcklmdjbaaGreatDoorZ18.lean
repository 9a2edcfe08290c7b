/- Contracts and mathematics: Token. -/
import Derived.Test.YtpijolcklmdjbaaGreatDoorZ17
namespace Go.Proofs.YtpijolcklmdjbaaGreatDoor
open Go.RowKit Go.Lib Go.WideShapes

/-- A token is told, or it panics. -/
def OptK (p : Nat) (s : ByteArray) (w : World) (R : Option (UInt8 × Bs × Bs)) (e : Ending) (w' : World) : Prop := (∀ k t r, R = some (k, t, r) → Moved p s w (s.size - r.length) (.tuple #[.int .u8 (k.toNat : Nat), .string ⟨t.toArray⟩]) e w') ∧ (R = none → Stuck p s w e w')

theorem OptK.some {p : Nat} {s : ByteArray} {w w' : World} {R : Option (UInt8 × Bs × Bs)} {k : UInt8} {t r : Bs} {e : Ending} (hR : R = some (k, t, r)) (h : Moved p s w (s.size - r.length) (.tuple #[.int .u8 (k.toNat : Nat), .string ⟨t.toArray⟩]) e w') : OptK p s w R e w' := ⟨fun _ _ _ hr => (by rw [hR] at hr; cases hr; exact h), fun hr => (by rw [hR] at hr; cases hr)⟩
theorem OptK.none {p : Nat} {s : ByteArray} {w w' : World} {R : Option (UInt8 × Bs × Bs)} {e : Ending} (hR : R = .none) (h : Stuck p s w e w') : OptK p s w R e w' := ⟨fun _ _ _ hr => (by rw [hR] at hr; cases hr), fun _ => h⟩

theorem Stuck.later {p : Nat} {s : ByteArray} {w wr w' : World} {e : Ending} (h : Stuck p s wr e w') (hg : w.grownBy wr (some p)) : Stuck p s w e w' := ⟨h.1, h.2.1, grow_trans hg h.2.2⟩

section
variable {s : ByteArray} {i : Nat} (hi : i < s.size)
include hi

end

end Go.Proofs.YtpijolcklmdjbaaGreatDoor
