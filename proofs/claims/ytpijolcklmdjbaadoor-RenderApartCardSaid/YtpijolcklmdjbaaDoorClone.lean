/- A part of a row of tokens; slices.Clone over tokens. -/
import Derived.Test.YtpijolcklmdjbaaDoorFirstM
import Derived.StillTailTactics
import Derived.WalkSpells
namespace Go.Proofs.YtpijolcklmdjbaaDoor
open Go.RowKit Go.Lib Go.WideShapes

theorem tokC_cell : ∀ (l : List Tok) (j : Nat) (u : Value), (tokC l)[j]? = some u → ∃ i q, l[i]? = some q ∧ ((j = i * 4 ∧ u = .int .u8 (q.kind.toNat : Nat)) ∨ (j = i * 4 + 1 ∧ u = .string ⟨q.text.toArray⟩) ∨ (j = i * 4 + 2 ∧ u = .int .i64 q.lo) ∨ (j = i * 4 + 3 ∧ u = .int .i64 q.hi)) := by
  intro l
  induction l with
  | nil => intro j u h; cases h
  | cons t l ih =>
    intro j u h
    match j with
    | 0 => cases h; exact ⟨0, t, rfl, .inl ⟨rfl, rfl⟩⟩
    | 1 => cases h; exact ⟨0, t, rfl, .inr (.inl ⟨rfl, rfl⟩)⟩
    | 2 => cases h; exact ⟨0, t, rfl, .inr (.inr (.inl ⟨rfl, rfl⟩))⟩
    | 3 => cases h; exact ⟨0, t, rfl, .inr (.inr (.inr ⟨rfl, rfl⟩))⟩
    | j + 4 =>
      obtain ⟨i, q, hq, hh⟩ := ih j u h
      refine ⟨i + 1, q, hq, ?_⟩
      rcases hh with ⟨h1, h2⟩ | ⟨h1, h2⟩ | ⟨h1, h2⟩ | ⟨h1, h2⟩
      · exact .inl ⟨by omega, h2⟩
      · exact .inr (.inl ⟨by omega, h2⟩)
      · exact .inr (.inr (.inl ⟨by omega, h2⟩))
      · exact .inr (.inr (.inr ⟨by omega, h2⟩))

theorem TokOff.cells {w : World} {p : Addr} {l : List Tok} (h : TokOff w (some p) l) (j : Nat) (u : Value) (hu : (tokC l)[j]? = some u) : w.cell? (p.add j) = some u := by
  rcases h with rfl | ⟨g, off, hp, _, hc⟩
  · cases hu
  · cases hp
    obtain ⟨i, q, hq, hh⟩ := tokC_cell l j u hu
    obtain ⟨h0, h1, h2, h3⟩ := hc i q hq
    rw [add_plain]
    rcases hh with ⟨rfl, rfl⟩ | ⟨rfl, rfl⟩ | ⟨rfl, rfl⟩ | ⟨rfl, rfl⟩
    · exact h0
    · exact h1
    · exact h2
    · exact h3

theorem tokC_one (l : List Tok) : ∀ u ∈ tokC l, u.oneCell' = true := by
  intro u hu
  simp only [tokC, List.mem_flatMap, List.mem_cons, List.not_mem_nil, or_false] at hu
  obtain ⟨q, _, rfl | rfl | rfl | rfl⟩ := hu <;> rfl

/-- Block g is a row of tokens. -/
def RowOf (w : World) (g : Nat) : Prop := ∃ row k, w.heap[g]? = some (Obj.cells row 48 k)

theorem rowAt {w : World} {B : Nat} {v : Value} {l : List Tok} (h : w.ownsRow B 48 4 v l.length (tokC l)) (h0 : 0 < l.length) : ∃ g d, (B ≤ g ∧ l.length ≤ d ∧ d ≤ 9223372036854775807) ∧ v = .slice (some ⟨g, 0, none⟩) l.length d ∧ RowOf w g ∧ TokAt w (some ⟨g, 0, none⟩) l := by
  have hrow : ∀ g c, v = .slice (some ⟨g, 0, none⟩) l.length c → RowOf w g := by
    intro g c e
    rcases h.2 with ⟨rfl, _⟩ | ⟨g', cap, cur, rfl, _, hg, _⟩
    · cases e
    · cases e; exact ⟨_, _, hg⟩
  obtain ⟨g, cap, rfl, hk1, hk2, hB, hg, hc⟩ := tok_cells h h0
  refine ⟨_, _, ⟨hB, hk1, hk2⟩, rfl, hrow _ _ rfl, fun i q hq => ?_⟩
  obtain ⟨h0, h1, h2, h3⟩ := tokC_at l i q hq
  exact ⟨g, rfl, hg, hc _ _ h0, hc _ _ h1, hc _ _ h2, hc _ _ h3⟩

end Go.Proofs.YtpijolcklmdjbaaDoor
