/- Contracts and mathematics: PCommand, PBarred, POf. -/
import Derived.Test.YtpijolcklmdjbaaGreatDoorZ46
import Derived.Test.YtpijolcklmdjbaaGreatDoorZ21
import Derived.Deep.LoopGhost
import Derived.ChangeKeysEq
import Derived.Deep.MidRow
import Derived.Deep.RegionWith
import Derived.Deep.DeepCutAuto
namespace Go.Proofs.YtpijolcklmdjbaaGreatDoor
open Go.RowKit Go.Lib Go.WideShapes

end Go.Proofs.YtpijolcklmdjbaaGreatDoor

namespace Go.Proofs.YtpijolcklmdjbaaGreatDoor
open Go.RowKit Go.Lib Go.WideShapes

/-- The program's row of barred words. -/
def BarredAt (w : World) : Prop := ∀ (i : Nat) (x : Bs), barredL[i]? = some x → w.cell? ⟨0, i, none⟩ = some (.string ⟨x.toArray⟩)
theorem BarredAt.lt {w : World} (h : BarredAt w) : 0 < w.heap.size := World.block_lt_of_cell? w ⟨0, 0, none⟩ (h 0 _ rfl)
theorem BarredAt.step {w w' : World} (h : BarredAt w) (hb : Below w.heap.size w w') : BarredAt w' := fun i x hx => (hb.cell (p := ⟨0, i, none⟩) h.lt).trans (h i x hx)
end Go.Proofs.YtpijolcklmdjbaaGreatDoor

namespace Go.Proofs.YtpijolcklmdjbaaGreatDoor
open Go.RowKit Go.Lib Go.WideShapes

/-- The cells that Of makes: the statement's tokens, the result, the first token's text. -/
structure OfAt (w : World) (b : Nat) (V : Value) (X : Bs) (w1 : World) : Prop where
  below : Below b w w1
  lt : b + 2 < w1.heap.size
  v : w1.cell? ⟨b, 0, none⟩ = some V
  x : w1.cell? ⟨b + 1 + 1, 1, none⟩ = some (.string ⟨X.toArray⟩)
  c0 : w1.cell? ⟨b + 1, 0, none⟩ = some (.int .u8 0)
  c1 : w1.cell? ⟨b + 1, 1, none⟩ = some (.string { data := #[] })
  c2 : w1.cell? ⟨b + 1, 2, none⟩ = some (.string { data := #[] })
  f0 : w1.frozen? ⟨b + 1, 0, none⟩ = false
  f1 : w1.frozen? ⟨b + 1, 1, none⟩ = false
  f2 : w1.frozen? ⟨b + 1, 2, none⟩ = false
theorem OfAt.step {w w1 w2 : World} {b : Nat} {V : Value} {X : Bs} (h : OfAt w b V X w1) (hb : Below w1.heap.size w1 w2) : OfAt w b V X w2 := by
  have l0 : b < w1.heap.size := by have := h.lt; omega
  have l1 : b + 1 < w1.heap.size := by have := h.lt; omega
  have l2 : b + 1 + 1 < w1.heap.size := by have := h.lt; omega
  exact ⟨h.below.step hb (by omega), Nat.lt_of_lt_of_le h.lt hb.size, (hb.cell (p := ⟨b, 0, none⟩) l0).trans h.v, (hb.cell (p := ⟨b + 1 + 1, 1, none⟩) l2).trans h.x, (hb.cell (p := ⟨b + 1, 0, none⟩) l1).trans h.c0, (hb.cell (p := ⟨b + 1, 1, none⟩) l1).trans h.c1, (hb.cell (p := ⟨b + 1, 2, none⟩) l1).trans h.c2,
    (hb.frozen (p := ⟨b + 1, 0, none⟩) l1).trans h.f0, (hb.frozen (p := ⟨b + 1, 1, none⟩) l1).trans h.f1, (hb.frozen (p := ⟨b + 1, 2, none⟩) l1).trans h.f2⟩
theorem OfAt.held {w w3 w5 : World} {b : Nat} {V : Value} {X : Bs} (h : OfAt w b V X w3) (hb : Below w3.drew.heap.size w3.drew w5) : (w5.cell? ⟨b, 0, none⟩ = some V ∧ w5.cell? ⟨b + 1 + 1, 1, none⟩ = some (.string ⟨X.toArray⟩)) ∧ Below w3.heap.size w3 w5 := by
  have hb' : Below w3.heap.size w3 w5 := (Below.refl _ w3).drew.step hb (Nat.le_refl _)
  have := h.step hb'
  exact ⟨⟨this.v, this.x⟩, hb'⟩
theorem OfAt.put {w w1 : World} {b : Nat} {V : Value} {X : Bs} (h : OfAt w b V X w1) (x y z : Value) : ((((w1.setCell ⟨b + 1, 0, none⟩ x).setCell ⟨b + 1, 1, none⟩ y).setCell ⟨b + 1, 2, none⟩ z).cell? ⟨b + 1, 0, none⟩ = some x ∧ (((w1.setCell ⟨b + 1, 0, none⟩ x).setCell ⟨b + 1, 1, none⟩ y).setCell ⟨b + 1, 2, none⟩ z).cell? ⟨b + 1, 1, none⟩ = some y ∧ (((w1.setCell ⟨b + 1, 0, none⟩ x).setCell ⟨b + 1, 1, none⟩ y).setCell ⟨b + 1, 2, none⟩ z).cell? ⟨b + 1, 2, none⟩ = some z) ∧
    Below b w (((w1.setCell ⟨b + 1, 0, none⟩ x).setCell ⟨b + 1, 1, none⟩ y).setCell ⟨b + 1, 2, none⟩ z) :=
  ⟨res_put h.c0 h.c1 h.c2 x y z, ((h.below.setCell (Nat.le_succ _) x).setCell (Nat.le_succ _) y).setCell (Nat.le_succ _) z⟩
/-- What Of has behind the command's call. -/
def OfCut (w : World) (b : Nat) (V : Value) (X : Bs) (k n v : Value) (q : Nat) (wx : World) : Prop := OfAt w b V X wx ∧ wx.cell? ⟨q, 0, none⟩ = some k ∧ wx.cell? ⟨q, 1, none⟩ = some n ∧ wx.cell? ⟨q, 2, none⟩ = some v
theorem OfCut.new {w w5 : World} {b : Nat} {V : Value} {X : Bs} {k n v : Value} {u : TypeId} (h : OfAt w b V X w5) : OfCut w b V X k n v w5.heap.size (w5.alloc (.cells #[k, n, v] u)) :=
  ⟨h.step ((Below.refl _ _).alloc (Nat.le_refl _) _), by simp [go_sem], by simp [go_sem], by simp [go_sem]⟩
theorem OfAt.start (w : World) (V L H : Value) (k lo hi : Value) (X : Bs) (u v x : TypeId) :
    OfAt w w.heap.size V X (((w.alloc (.cells #[V, L, H] u)).alloc (.cells #[.int .u8 0, .string { data := #[] }, .string { data := #[] }] v)).alloc (.cells #[k, .string ⟨X.toArray⟩, lo, hi] x)) := by
  refine ⟨(((Below.refl _ w).alloc (Nat.le_refl _) _).alloc (by simp) _).alloc (by simp; omega) _, by simp, ?_, ?_, ?_, ?_, ?_, ?_, ?_, ?_⟩ <;> simp [go_sem]

end Go.Proofs.YtpijolcklmdjbaaGreatDoor
