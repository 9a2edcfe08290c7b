/- Contracts and mathematics: PBegins, PRows, PParts, PPoint. -/
import Derived.Test.YtpijolcklmdjbaaGreatDoorZ21
import Derived.BigQuiet
import Derived.WalkSmall
import Derived.Deep.QuietTactic
namespace Go.Proofs.YtpijolcklmdjbaaGreatDoor
open Go.RowKit Go.Lib Go.WideShapes

theorem TokOff.first {w : World} {p : Option Addr} {t : Tok} {r : List Tok} (h : TokOff w p (t :: r)) : ∃ g off, p = some ⟨g, off, none⟩ ∧ g < w.heap.size ∧ TokOff w (some ⟨g, off, none⟩) (t :: r) := by
  have hA' := h
  rcases h with h | ⟨g, off, hp, hg, _⟩
  · cases h
  · exact ⟨g, off, hp, hg, by rw [← hp]; exact hA'⟩
end Go.Proofs.YtpijolcklmdjbaaGreatDoor

namespace Go.Proofs.YtpijolcklmdjbaaGreatDoor
open Go.RowKit Go.Lib Go.WideShapes

end Go.Proofs.YtpijolcklmdjbaaGreatDoor

namespace Go.Proofs.YtpijolcklmdjbaaGreatDoor
open Go.RowKit Go.Lib Go.WideShapes

/-- The result's own cells, not written yet. -/
structure Res (w w1 : World) : Prop where
  below : Below w.heap.size w w1
  lt : w.heap.size < w1.heap.size
  c0 : w1.cell? ⟨w.heap.size, 0, none⟩ = some (.int .u8 0)
  c1 : w1.cell? ⟨w.heap.size, 1, none⟩ = some (.string { data := #[] })
  c2 : w1.cell? ⟨w.heap.size, 2, none⟩ = some (.string { data := #[] })
  f0 : w1.frozen? ⟨w.heap.size, 0, none⟩ = false
  f1 : w1.frozen? ⟨w.heap.size, 1, none⟩ = false
  f2 : w1.frozen? ⟨w.heap.size, 2, none⟩ = false
theorem Res.start (w : World) : Res w (w.alloc (Obj.cells #[.int .u8 0, .string { data := #[] }, .string { data := #[] }] 23)) :=
  ⟨(Below.refl _ w).alloc (Nat.le_refl _) _, by simp, World.cell?_alloc_new _ _ _ _, World.cell?_alloc_new _ _ _ _, World.cell?_alloc_new _ _ _ _, World.frozen?_alloc_new _ _ _ _, World.frozen?_alloc_new _ _ _ _, World.frozen?_alloc_new _ _ _ _⟩
theorem Res.step {w w1 w2 : World} (h : Res w w1) (hb : Below w1.heap.size w1 w2) : Res w w2 :=
  ⟨h.below.step hb h.below.size, Nat.lt_of_lt_of_le h.lt hb.size, (hb.cell (p := ⟨w.heap.size, 0, none⟩) h.lt).trans h.c0, (hb.cell (p := ⟨w.heap.size, 1, none⟩) h.lt).trans h.c1, (hb.cell (p := ⟨w.heap.size, 2, none⟩) h.lt).trans h.c2,
    (hb.frozen (p := ⟨w.heap.size, 0, none⟩) h.lt).trans h.f0, (hb.frozen (p := ⟨w.heap.size, 1, none⟩) h.lt).trans h.f1, (hb.frozen (p := ⟨w.heap.size, 2, none⟩) h.lt).trans h.f2⟩
theorem res_put {w : World} {b : Nat} {x0 y0 z0 : Value} (h0 : w.cell? ⟨b, 0, none⟩ = some x0) (h1 : w.cell? ⟨b, 1, none⟩ = some y0) (h2 : w.cell? ⟨b, 2, none⟩ = some z0) (x y z : Value) :
    (((w.setCell ⟨b, 0, none⟩ x).setCell ⟨b, 1, none⟩ y).setCell ⟨b, 2, none⟩ z).cell? ⟨b, 0, none⟩ = some x ∧ (((w.setCell ⟨b, 0, none⟩ x).setCell ⟨b, 1, none⟩ y).setCell ⟨b, 2, none⟩ z).cell? ⟨b, 1, none⟩ = some y ∧ (((w.setCell ⟨b, 0, none⟩ x).setCell ⟨b, 1, none⟩ y).setCell ⟨b, 2, none⟩ z).cell? ⟨b, 2, none⟩ = some z := by
  have n01 : (⟨b, 0, none⟩ : Addr) ≠ ⟨b, 1, none⟩ := by intro e; injection e with _ e; cases e
  have n02 : (⟨b, 0, none⟩ : Addr) ≠ ⟨b, 2, none⟩ := by intro e; injection e with _ e; cases e
  have n12 : (⟨b, 1, none⟩ : Addr) ≠ ⟨b, 2, none⟩ := by intro e; injection e with _ e; cases e
  have a0 : (w.setCell ⟨b, 0, none⟩ x).cell? ⟨b, 0, none⟩ = some x := World.cell?_setCell_same _ _ _ h0
  have a1 : (w.setCell ⟨b, 0, none⟩ x).cell? ⟨b, 1, none⟩ = some y0 := (World.cell?_setCell_other _ _ _ _ n01).trans h1
  have a2 : (w.setCell ⟨b, 0, none⟩ x).cell? ⟨b, 2, none⟩ = some z0 := (World.cell?_setCell_other _ _ _ _ n02).trans h2
  have b1 : ((w.setCell ⟨b, 0, none⟩ x).setCell ⟨b, 1, none⟩ y).cell? ⟨b, 1, none⟩ = some y := World.cell?_setCell_same _ _ _ a1
  have b0 : ((w.setCell ⟨b, 0, none⟩ x).setCell ⟨b, 1, none⟩ y).cell? ⟨b, 0, none⟩ = some x := (World.cell?_setCell_other _ _ _ _ (Ne.symm n01)).trans a0
  have b2 : ((w.setCell ⟨b, 0, none⟩ x).setCell ⟨b, 1, none⟩ y).cell? ⟨b, 2, none⟩ = some z0 := (World.cell?_setCell_other _ _ _ _ n12).trans a2
  exact ⟨(World.cell?_setCell_other _ _ _ _ (Ne.symm n02)).trans b0, (World.cell?_setCell_other _ _ _ _ (Ne.symm n12)).trans b1, World.cell?_setCell_same _ _ _ b2⟩
theorem Res.put {w w1 : World} (h : Res w w1) (x y z : Value) : ((((w1.setCell ⟨w.heap.size, 0, none⟩ x).setCell ⟨w.heap.size, 1, none⟩ y).setCell ⟨w.heap.size, 2, none⟩ z).cell? ⟨w.heap.size, 0, none⟩ = some x ∧ (((w1.setCell ⟨w.heap.size, 0, none⟩ x).setCell ⟨w.heap.size, 1, none⟩ y).setCell ⟨w.heap.size, 2, none⟩ z).cell? ⟨w.heap.size, 1, none⟩ = some y ∧ (((w1.setCell ⟨w.heap.size, 0, none⟩ x).setCell ⟨w.heap.size, 1, none⟩ y).setCell ⟨w.heap.size, 2, none⟩ z).cell? ⟨w.heap.size, 2, none⟩ = some z) ∧
    Below w.heap.size w (((w1.setCell ⟨w.heap.size, 0, none⟩ x).setCell ⟨w.heap.size, 1, none⟩ y).setCell ⟨w.heap.size, 2, none⟩ z) :=
  ⟨res_put h.c0 h.c1 h.c2 x y z, ((h.below.setCell (Nat.le_refl _) x).setCell (Nat.le_refl _) y).setCell (Nat.le_refl _) z⟩

end Go.Proofs.YtpijolcklmdjbaaGreatDoor

namespace Go.Proofs.YtpijolcklmdjbaaGreatDoor
open Go.RowKit Go.Lib Go.WideShapes

end Go.Proofs.YtpijolcklmdjbaaGreatDoor
