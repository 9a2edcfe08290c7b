/- A statement of a row of tokens. -/
import Derived.Test.YtpijolcklmdjbaaDoorIndex
import Derived.Deep.RegionHeld3
import Derived.Deep.QuietTactic
import Derived.IntWalk
namespace Go.Proofs.YtpijolcklmdjbaaDoor
open Go.RowKit Go.Lib Go.WideShapes

/-- What the region reads and writes. -/
def Seen (w : World) (g o1 o2 b0 : Nat) (a b : Int) (w' : World) : Prop := (w'.cell? ⟨g, o1, none⟩ = some (.int .i64 a) ∧ w'.cell? ⟨g, o2, none⟩ = some (.int .i64 b) ∧ w'.cell? ⟨b0, 0, none⟩ = some (.slice none 0 0) ∧ w'.cell? ⟨b0, 1, none⟩ = some (.int .i64 0) ∧ w'.cell? ⟨b0, 2, none⟩ = some (.int .i64 0) ∧ w'.frozen? ⟨b0, 0, none⟩ = false ∧ w'.frozen? ⟨b0, 1, none⟩ = false ∧ w'.frozen? ⟨b0, 2, none⟩ = false) ∧ Below w.heap.size w w' ∧ w.heap.size ≤ w'.heap.size

theorem seen_step {w w' w'' : World} {g o1 o2 b0 : Nat} {a b : Int} (h : Seen w g o1 o2 b0 a b w') (hg : g < w.heap.size) (hb0 : b0 < w.heap.size) (hb : Below w'.heap.size w' w'') : Seen w g o1 o2 b0 a b w'' := by
  obtain ⟨⟨h1, h2, h3, h4, h5, h6, h7, h8⟩, h9, h10⟩ := h
  have hg' : g < w'.heap.size := Nat.lt_of_lt_of_le hg h10
  have hb' : b0 < w'.heap.size := Nat.lt_of_lt_of_le hb0 h10
  exact ⟨⟨(hb.cell hg').trans h1, (hb.cell hg').trans h2, (hb.cell hb').trans h3, (hb.cell hb').trans h4, (hb.cell hb').trans h5, (hb.frozen hb').trans h6, (hb.frozen hb').trans h7, (hb.frozen hb').trans h8⟩, h9.step hb h10, Nat.le_trans h10 hb.size⟩

/-- What the region reads. -/
def Lies (w w1 : World) (g o1 o2 : Nat) (a b : Int) (w' : World) : Prop := (w'.cell? ⟨g, o1, none⟩ = some (.int .i64 a) ∧ w'.cell? ⟨g, o2, none⟩ = some (.int .i64 b)) ∧ Below w.heap.size w w' ∧ w1.heap.size ≤ w'.heap.size

theorem lies_put {w w1 w' : World} {g o1 o2 : Nat} {a b : Int} (h : Lies w w1 g o1 o2 a b w') (hg : g < w.heap.size) (x y z : Value) : Lies w w1 g o1 o2 a b (((w'.setCell ⟨w.heap.size, 0, none⟩ x).setCell ⟨w.heap.size, 1, none⟩ y).setCell ⟨w.heap.size, 2, none⟩ z) := by
  obtain ⟨⟨h1, h2⟩, h3, h4⟩ := h
  have hne : ∀ o k, (⟨w.heap.size, k, none⟩ : Addr) ≠ ⟨g, o, none⟩ := fun o k e => by cases e; omega
  refine ⟨⟨?_, ?_⟩, ((h3.setCell (p := ⟨_, _, none⟩) (Nat.le_refl _) _).setCell (p := ⟨_, _, none⟩) (Nat.le_refl _) _).setCell (p := ⟨_, _, none⟩) (Nat.le_refl _) _, by simpa [World.setCell] using h4⟩
  · rw [World.cell?_setCell_other _ _ _ _ (hne _ _), World.cell?_setCell_other _ _ _ _ (hne _ _), World.cell?_setCell_other _ _ _ _ (hne _ _)]; exact h1
  · rw [World.cell?_setCell_other _ _ _ _ (hne _ _), World.cell?_setCell_other _ _ _ _ (hne _ _), World.cell?_setCell_other _ _ _ _ (hne _ _)]; exact h2

theorem put_cells {w : World} {b : Nat} {x0 y0 z0 : Value} (h0 : w.cell? ⟨b, 0, none⟩ = some x0) (h1 : w.cell? ⟨b, 1, none⟩ = some y0) (h2 : w.cell? ⟨b, 2, none⟩ = some z0) (x y z : Value) : (((w.setCell ⟨b, 0, none⟩ x).setCell ⟨b, 1, none⟩ y).setCell ⟨b, 2, none⟩ z).cell? ⟨b, 0, none⟩ = some x ∧ (((w.setCell ⟨b, 0, none⟩ x).setCell ⟨b, 1, none⟩ y).setCell ⟨b, 2, none⟩ z).cell? ⟨b, 1, none⟩ = some y ∧ (((w.setCell ⟨b, 0, none⟩ x).setCell ⟨b, 1, none⟩ y).setCell ⟨b, 2, none⟩ z).cell? ⟨b, 2, none⟩ = some z := by
  have n1 : (⟨b, 1, none⟩ : Addr) ≠ ⟨b, 0, none⟩ := fun e => by cases e
  have n2 : (⟨b, 2, none⟩ : Addr) ≠ ⟨b, 0, none⟩ := fun e => by cases e
  have n3 : (⟨b, 2, none⟩ : Addr) ≠ ⟨b, 1, none⟩ := fun e => by cases e
  refine ⟨?_, ?_, ?_⟩
  · rw [World.cell?_setCell_other _ _ _ _ n2, World.cell?_setCell_other _ _ _ _ n1]; exact World.cell?_setCell_same _ _ _ h0
  · rw [World.cell?_setCell_other _ _ _ _ n3]; exact World.cell?_setCell_same _ _ _ ((World.cell?_setCell_other _ _ _ _ n1.symm).trans h1)
  · exact World.cell?_setCell_same _ _ _ ((World.cell?_setCell_other _ _ _ _ n3.symm).trans ((World.cell?_setCell_other _ _ _ _ n2.symm).trans h2))

theorem rowOf_put {w : World} {b gu : Nat} (h : RowOf w gu) (hne : gu ≠ b) (x y z : Value) : RowOf (((w.setCell ⟨b, 0, none⟩ x).setCell ⟨b, 1, none⟩ y).setCell ⟨b, 2, none⟩ z) gu := by
  obtain ⟨row, k, h⟩ := h
  exact ⟨row, k, (Below.heap_setCell _ _ _ _ hne).trans ((Below.heap_setCell _ _ _ _ hne).trans ((Below.heap_setCell _ _ _ _ hne).trans h))⟩

theorem tokAt_put {w : World} {b gu : Nat} {l : List Tok} (h : TokAt w (some ⟨gu, 0, none⟩) l) (hne : gu ≠ b) (x y z : Value) : TokAt (((w.setCell ⟨b, 0, none⟩ x).setCell ⟨b, 1, none⟩ y).setCell ⟨b, 2, none⟩ z) (some ⟨gu, 0, none⟩) l := by
  intro i q hq
  obtain ⟨g, hg, hgl, h0, h1, h2, h3⟩ := h i q hq
  cases hg
  have hn : ∀ o k, (⟨b, k, none⟩ : Addr) ≠ ⟨gu, o, none⟩ := fun o k e => by cases e; exact hne rfl
  have hh : ∀ o, (((w.setCell ⟨b, 0, none⟩ x).setCell ⟨b, 1, none⟩ y).setCell ⟨b, 2, none⟩ z).cell? ⟨gu, o, none⟩ = w.cell? ⟨gu, o, none⟩ := fun o => by
    rw [World.cell?_setCell_other _ _ _ _ (hn _ _), World.cell?_setCell_other _ _ _ _ (hn _ _), World.cell?_setCell_other _ _ _ _ (hn _ _)]
  exact ⟨gu, rfl, by simpa [World.setCell] using hgl, (hh _).trans h0, (hh _).trans h1, (hh _).trans h2, (hh _).trans h3⟩

end Go.Proofs.YtpijolcklmdjbaaDoor
