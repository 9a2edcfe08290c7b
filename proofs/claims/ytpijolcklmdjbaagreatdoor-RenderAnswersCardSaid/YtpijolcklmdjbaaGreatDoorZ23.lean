/- Contracts and mathematics: NReadM, NTakesM, Fields, Parts, FirstM, Clone. -/
import Derived.Test.YtpijolcklmdjbaaGreatDoorZ14
import Derived.Test.YtpijolcklmdjbaaGreatDoorZ22
import Derived.Test.YtpijolcklmdjbaaGreatDoorZ21
import Derived.Test.YtpijolcklmdjbaaGreatDoorZ9
import Derived.Shelf.Strings.BuilderK
import Derived.BigQuiet
import Derived.Deep.QuietTactic
import Derived.StillTailTactics
import Derived.WalkSpells
namespace Go.Proofs.YtpijolcklmdjbaaGreatDoor
open Go.RowKit Go.Lib Go.WideShapes

/-- What may stand behind an identifier. -/
def Ends (rest : Bs) : Prop := rest.head? ≠ some 39 ∧ rest.head? ≠ some 34 ∧ ∀ c, rest.head? = some c → inw c = false

theorem quoted_length (c : UInt8) (l : Bs) : (quoted c l).length ≤ 2 * l.length + 2 := by
  unfold quoted
  have : (doubled c l).length ≤ 2 * l.length := by
    rw [doubled_length]
    have := List.count_le_length (a := c) (l := l)
    omega
  simp; omega
theorem ident_length (l : Bs) : (identB l).length ≤ 2 * l.length + 2 := by
  unfold identB
  split
  · omega
  · exact quoted_length 34 l

end Go.Proofs.YtpijolcklmdjbaaGreatDoor

namespace Go.Proofs.YtpijolcklmdjbaaGreatDoor
open Go.RowKit Go.Lib Go.WideShapes

theorem cut_back {l : Bs} (h : (46 : UInt8) ∈ l) : ∃ a b, l = a ++ 46 :: b ∧ (46 : UInt8) ∉ a := by
  induction l with
  | nil => cases h
  | cons x r ih =>
    by_cases hx : x = 46
    · subst hx; exact ⟨[], r, rfl, by simp⟩
    · rcases List.mem_cons.1 h with e | e
      · exact absurd e.symm hx
      · obtain ⟨a, b, rfl, hn⟩ := ih e
        exact ⟨x :: a, b, rfl, by simp [hn]; exact fun e => hx e.symm⟩
end Go.Proofs.YtpijolcklmdjbaaGreatDoor

namespace Go.Proofs.YtpijolcklmdjbaaGreatDoor
open Go.RowKit Go.Lib Go.WideShapes Go.Shelf

/-- A builder that the call itself made. -/
abbrev IsB (B b : Nat) (l : Bs) (w : World) : Prop := Lib.IsBuilderF 99 5 B b (Lib.byteCells l) w

theorem IsB.alloc {B b : Nat} {l : Bs} {w : World} (h : IsB B b l w) (o : Obj) : IsB B b l (w.alloc o) := h.elim (fun x => .inl (x.alloc o)) (fun x => .inr (x.alloc o))
theorem IsB.drewN {B b : Nat} {l : Bs} {w : World} (h : IsB B b l w) (n : Nat) : IsB B b l (w.drewN n) := h
theorem atF_below {T e : TypeId} {B b : Nat} {p : Value} {bs : List Value} {w w' : World} (h : Lib.BuilderAtF T e B b p bs w) (hb : Below w.heap.size w w') : Lib.BuilderAtF T e B b p bs w' := by
  obtain ⟨h0, v, h1, h2, h3⟩ := h
  exact ⟨h0, v, (hb.block b (Array.getElem?_eq_some_iff.1 h1).1).trans h1, h2.kept (grow_below hb none) (by cases v.ownBlock <;> simp), h3⟩
theorem IsB.below {B b : Nat} {l : Bs} {w w' : World} (h : IsB B b l w) (hb : Below w.heap.size w w') : IsB B b l w' := h.elim (fun x => .inl (atF_below x hb)) (fun x => .inr (atF_below x hb))
end Go.Proofs.YtpijolcklmdjbaaGreatDoor

namespace Go.Proofs.YtpijolcklmdjbaaGreatDoor
open Go.RowKit Go.Lib Go.WideShapes

end Go.Proofs.YtpijolcklmdjbaaGreatDoor

namespace Go.Proofs.YtpijolcklmdjbaaGreatDoor
open Go.RowKit Go.Lib Go.WideShapes

def WordsAt (w : World) (u : Option Addr) (W : List Bs) : Prop := ∀ (i : Nat) (x : Bs), W[i]? = some x → ∃ g, u = some ⟨g, 0, none⟩ ∧ g < w.heap.size ∧ w.cell? ⟨g, i, none⟩ = some (.string ⟨x.toArray⟩)
theorem WordsAt.step {w w' : World} {u : Option Addr} {W : List Bs} (h : WordsAt w u W) (hb : Below w.heap.size w w') : WordsAt w' u W := by
  intro i x hx
  obtain ⟨g, rfl, hg, h0⟩ := h i x hx
  exact ⟨g, rfl, Nat.lt_of_lt_of_le hg hb.size, (hb.cell hg).trans h0⟩

end Go.Proofs.YtpijolcklmdjbaaGreatDoor

namespace Go.Proofs.YtpijolcklmdjbaaGreatDoor
open Go.RowKit Go.Lib Go.WideShapes

theorem tokC_cell : ∀ (l : List Tok) (j : Nat) (u : Value), (tokC l)[j]? = some u → ∃ i q, l[i]? = some q ∧ ((j = i * 4 ∧ u = .int .u8 (q.kind.toNat : Nat)) ∨ (j = i * 4 + 1 ∧ u = .string ⟨q.text.toArray⟩) ∨ (j = i * 4 + 2 ∧ u = .int .i64 q.lo) ∨ (j = i * 4 + 3 ∧ u = .int .i64 q.hi)) := by
  intro l
  induction l with
  | nil => intro j u h; cases h
  | cons t l ih =>
    intro j u h
    match j with
    | 0 => cases h; exact ⟨0, t, rfl, .inl ⟨rfl, rfl⟩⟩
    | 1 => cases h; exact ⟨0, t, rfl, .inr (.inl ⟨rfl, rfl⟩)⟩
    | 2 => cases h; exact ⟨0, t, rfl, .inr (.inr (.inl ⟨rfl, rfl⟩))⟩
    | 3 => cases h; exact ⟨0, t, rfl, .inr (.inr (.inr ⟨rfl, rfl⟩))⟩
    | j + 4 =>
      obtain ⟨i, q, hq, hh⟩ := ih j u h
      refine ⟨i + 1, q, hq, ?_⟩
      rcases hh with ⟨h1, h2⟩ | ⟨h1, h2⟩ | ⟨h1, h2⟩ | ⟨h1, h2⟩
      · exact .inl ⟨by omega, h2⟩
      · exact .inr (.inl ⟨by omega, h2⟩)
      · exact .inr (.inr (.inl ⟨by omega, h2⟩))
      · exact .inr (.inr (.inr ⟨by omega, h2⟩))

theorem TokOff.cells {w : World} {p : Addr} {l : List Tok} (h : TokOff w (some p) l) (j : Nat) (u : Value) (hu : (tokC l)[j]? = some u) : w.cell? (p.add j) = some u := by
  rcases h with rfl | ⟨g, off, hp, _, hc⟩
  · cases hu
  · cases hp
    obtain ⟨i, q, hq, hh⟩ := tokC_cell l j u hu
    obtain ⟨h0, h1, h2, h3⟩ := hc i q hq
    rw [Go.WideShapes.add_plain]
    rcases hh with ⟨rfl, rfl⟩ | ⟨rfl, rfl⟩ | ⟨rfl, rfl⟩ | ⟨rfl, rfl⟩
    · exact h0
    · exact h1
    · exact h2
    · exact h3

/-- Block g is a row of tokens. -/
def RowOf (w : World) (g : Nat) : Prop := ∃ row k, w.heap[g]? = some (Obj.cells row 79 k)

end Go.Proofs.YtpijolcklmdjbaaGreatDoor
