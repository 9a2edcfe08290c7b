/- Contracts and mathematics: Tokens. -/
import Derived.Test.YtpijolcklmdjbaaGreatDoorZ18
import Derived.Defers
import Derived.Recover
namespace Go.Proofs.YtpijolcklmdjbaaGreatDoor
open Go.RowKit Go.Lib Go.WideShapes

def tokC (l : List Tok) : List Value := l.flatMap fun t => [.int .u8 (t.kind.toNat : Nat), .string ⟨t.text.toArray⟩, .int .i64 t.lo, .int .i64 t.hi]
theorem tokC_snoc (l : List Tok) (t : Tok) : tokC (l ++ [t]) = tokC l ++ [.int .u8 (t.kind.toNat : Nat), .string ⟨t.text.toArray⟩, .int .i64 t.lo, .int .i64 t.hi] := by simp [tokC]
@[go_sem, simp] theorem setCell_drewN (w : World) (k : Nat) (a : Addr) (v : Value) : (w.drewN k).setCell a v = (w.setCell a v).drewN k := rfl

theorem idx_zero : ∀ l : Bs, ((0 : UInt8) ∈ l ∧ 0 ≤ indexByte l 0) ∨ ((0 : UInt8) ∉ l ∧ indexByte l 0 = -1) := by
  intro l
  induction l with
  | nil => exact .inr ⟨by simp, rfl⟩
  | cons a r ih =>
    rw [indexByte]
    by_cases h : a = 0
    · subst h; exact .inl ⟨by simp, by simp⟩
    · rw [if_neg (by simpa using h)]
      rcases ih with ⟨h1, h2⟩ | ⟨h1, h2⟩
      · exact .inl ⟨by simp [h1], by rw [if_neg (by simp; omega)]; omega⟩
      · exact .inr ⟨by simp [h1]; exact fun e => h e.symm, by rw [h2]; rfl⟩

end Go.Proofs.YtpijolcklmdjbaaGreatDoor
