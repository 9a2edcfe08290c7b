/- A queue that a law made, beside a row of integers of the law's own. -/
import Derived.Test.YtcklfdpmggoafaaQE
namespace Go.Proofs.Ytcklfdpmggoafaa
open Go.RowKit Go.Lib Go.WideShapes Go.Maps

/-- A queue made behind w0, and the row v of the integers xs, apart from it. -/
def QW (w0 wr : World) (p B : Nat) (most : Int) (L : Waits) (N : Nat) (v : Value) (xs : List Int) : Prop :=
  ∃ o, QIs wr p B o most L N ∧ Below w0.heap.size w0 wr ∧ (∀ j, Foot p B o j → w0.heap.size ≤ j) ∧ wr.ownsRow w0.heap.size 3 1 v xs.length (intCells xs) ∧ ∀ j, v.ownBlock = some j → ¬ Foot p B o j

section
variable {w0 w : World} {p B : Nat} {most : Int} {L : Waits} {N : Nat} {v : Value} {xs : List Int}

theorem QW.qe (h : QW w0 w p B most L N v xs) : QE w0 w p B most L N := by
  obtain ⟨o, h1, h2, h3, _⟩ := h; exact ⟨o, h1, h2, h3⟩
theorem QW.row (h : QW w0 w p B most L N v xs) : w.ownsRow w0.heap.size 3 1 v xs.length (intCells xs) := by
  obtain ⟨o, _, _, _, h, _⟩ := h; exact h
theorem QE.qw (h : QE w0 w p B most L N) : QW w0 w p B most L N (.slice none 0 0) [] := by
  obtain ⟨o, h1, h2, h3⟩ := h; exact ⟨o, h1, h2, h3, World.ownsRow_nil _ _ _ _, by intro j hj; cases hj⟩

theorem QW.grown {w' : World} (h : QW w0 w p B most L N v xs) (hb : Below w.heap.size w w') : QW w0 w' p B most L N v xs := by
  obtain ⟨o, h1, h2, h3, h4, h5⟩ := h
  exact ⟨o, h1.below hb, h2.step hb h2.size, h3, own_grown h4 hb (Nat.le_refl _), h5⟩

theorem qw_of {f : Nat} {args : Array Value} {L' : Waits} {N' : Nat} {r : Value} (h : QW w0 w p B most L N v xs) (hc : ∀ o, QIs w p B o most L N → Calls Try.prog f args w (Left p B o most L' N' r w)) :
    Calls Try.prog f args w fun e w' => e = .returned r ∧ QW w0 w' p B most L' N' v xs := by
  obtain ⟨o, h1, h2, h3, h4, h5⟩ := h
  refine (hc o h1).mono ?_
  rintro e w' ⟨rfl, o', hQ, hK⟩
  obtain ⟨hb2, hf2⟩ := hK.below h2.size h3
  refine ⟨rfl, o', hQ, h2.trans hb2, hf2, ?_, fun j hj hf => (hK.foot j hf).elim (h5 j hj) (fun hs => by have := (h4.lt j hj).2; omega)⟩
  refine ⟨h4.1, ?_⟩
  rcases h4.2 with hn | ⟨g, cap, cur, hv, hb, hg, rest⟩
  · exact .inl hn
  · have hvg : v.ownBlock = some g := by rw [hv]; rfl
    exact .inr ⟨g, cap, cur, hv, hb, (hK.block g (Array.getElem?_eq_some_iff.1 hg).1 (h5 g hvg)).trans hg, rest⟩

/-- The row grew by one. -/
theorem QW.put {w1 : World} {v' : Value} {x : Int} {c : Obj} (h : QW w0 w p B most L N v xs) (hO : w1.ownsRow w0.heap.size 3 1 v' (xs.length + 1) (intCells xs ++ [.int .i64 x])) (hg : (w.alloc c).grownBy w1 v.ownBlock) (hnew : ∀ k, v'.ownBlock = some k → v.ownBlock = some k ∨ (w.alloc c).heap.size ≤ k) : QW w0 w1 p B most L N v' (xs ++ [x]) := by
  have h' := h.grown ((Below.refl w.heap.size w).alloc (Nat.le_refl _) c)
  obtain ⟨o, h1, h2, h3, h4, h5⟩ := h'
  have hlt := h1.lt
  have hF : ∀ j, Foot p B o j → j < (w.alloc c).heap.size := by
    intro j hj
    rcases hj with rfl | rfl | hj
    · exact hlt.1
    · exact hlt.2.1
    · exact hlt.2.2.1 j hj
  refine ⟨o, h1.kept (fun j hj hf => hg.block j hj (fun e => h5 j e.symm hf)), below_grown h2 h2.size hg (fun k hk => (h4.lt k hk).1), h3, by rw [intCells_append, List.length_append]; exact hO, fun j hj hf => (hnew j hj).elim (fun e => h5 j e hf) (fun e => by have := hF j hf; omega)⟩
end
end Go.Proofs.Ytcklfdpmggoafaa
