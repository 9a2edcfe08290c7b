/- Words that a statement begins with. -/
import Derived.Test.YtpijolcklmdjbaaDoorParts
namespace Go.Proofs.YtpijolcklmdjbaaDoor
open Go.RowKit Go.Lib Go.WideShapes

def begins : List Tok → List Bs → Bool
  | _, [] => true
  | [], _ :: _ => false
  | t :: l, x :: r => (t.kind == 119 && t.text == x) && begins l r

theorem begins_short : ∀ (W : List Bs) (l : List Tok), l.length < W.length → begins l W = false := by
  intro W
  induction W with
  | nil => intro l h; cases h
  | cons x r ih =>
    intro l h
    cases l with
    | nil => rfl
    | cons t l => rw [begins, ih l (by simpa using h), Bool.and_false]

def WordsAt (w : World) (u : Option Addr) (W : List Bs) : Prop := ∀ (i : Nat) (x : Bs), W[i]? = some x → ∃ g, u = some ⟨g, 0, none⟩ ∧ g < w.heap.size ∧ w.cell? ⟨g, i, none⟩ = some (.string ⟨x.toArray⟩)
theorem WordsAt.step {w w' : World} {u : Option Addr} {W : List Bs} (h : WordsAt w u W) (hb : Below w.heap.size w w') : WordsAt w' u W := by
  intro i x hx
  obtain ⟨g, rfl, hg, h0⟩ := h i x hx
  exact ⟨g, rfl, Nat.lt_of_lt_of_le hg hb.size, (hb.cell hg).trans h0⟩

end Go.Proofs.YtpijolcklmdjbaaDoor
