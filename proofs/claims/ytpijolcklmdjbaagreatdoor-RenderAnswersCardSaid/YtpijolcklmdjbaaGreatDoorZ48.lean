/- Contracts and mathematics: Runs, Statements, Split. -/
import Derived.Test.YtpijolcklmdjbaaGreatDoorZ25
import Derived.RangeFuncBox
import Derived.Maps.AppendAt
namespace Go.Proofs.YtpijolcklmdjbaaGreatDoor
open Go.RowKit Go.Lib Go.WideShapes Go.Shelf

attribute [local go_sem] Oper.semAt_some

end Go.Proofs.YtpijolcklmdjbaaGreatDoor

namespace Go.Proofs.YtpijolcklmdjbaaGreatDoor
open Go.RowKit Go.Lib Go.WideShapes

end Go.Proofs.YtpijolcklmdjbaaGreatDoor

namespace Go.Proofs.YtpijolcklmdjbaaGreatDoor
open Go.RowKit Go.Lib Go.WideShapes Go.Shelf

attribute [local go_sem] Oper.semAt_some

/-- The cells of a row of statements. -/
def StAt (w : World) (p : Option Addr) (l : List St) : Prop := ∀ (i : Nat) (x : St), l[i]? = some x → ∃ g, p = some ⟨g, 0, none⟩ ∧ g < w.heap.size ∧ w.cell? ⟨g, i * 3, none⟩ = some (.slice x.u x.toks.length x.d) ∧ w.cell? ⟨g, i * 3 + 1, none⟩ = some (.int .i64 x.lo) ∧ w.cell? ⟨g, i * 3 + 2, none⟩ = some (.int .i64 x.hi)

theorem StAt.step {w w' : World} {p : Option Addr} {l : List St} (h : StAt w p l) (hb : Below w.heap.size w w') : StAt w' p l := by
  intro i q hq
  obtain ⟨g, rfl, hg, h0, h1, h2⟩ := h i q hq
  exact ⟨g, rfl, Nat.lt_of_lt_of_le hg hb.size, (hb.cell hg).trans h0, (hb.cell hg).trans h1, (hb.cell hg).trans h2⟩

/-- A row of statements has grown. -/
theorem KeepsToks.grown {V W : World} {B n : Nat} {v : Value} {xs : List Value} (hr : V.ownsRow B 60 3 v n xs) (hg : V.grownBy W v.ownBlock) : KeepsToks V W := by
  refine ⟨hg.size, fun g row k h => hg.block g (Array.getElem?_eq_some_iff.1 h).1 fun e => ?_⟩
  rcases hr.2 with ⟨rfl, _⟩ | ⟨g', cap, cur, rfl, _, hg', _⟩
  · simp [Value.ownBlock] at e
  · obtain rfl : g = g' := by simpa [Value.ownBlock] using e
    rw [h] at hg'; simp at hg'

theorem KeepsToks.alloc (V : World) (o : Obj) : KeepsToks V (V.alloc o) := KeepsToks.below ((Below.refl _ V).alloc (Nat.le_refl _) o)

end Go.Proofs.YtpijolcklmdjbaaGreatDoor
