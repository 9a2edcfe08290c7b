/- Contracts and mathematics: Seq, ManyM. -/
import Derived.Test.YtpijolcklmdjbaaGreatDoorZ24
namespace Go.Proofs.YtpijolcklmdjbaaGreatDoor
open Go.RowKit Go.Lib Go.WideShapes Go.Shelf

attribute [local go_sem] Oper.semAt_some

/-- A statement as it is handed on. -/
structure St where
  u : Option Addr
  d : Nat
  toks : List Tok

def St.lo (x : St) : Int := (x.toks.head?.map (fun t => (t.lo : Int))).getD 0
def St.hi (x : St) : Int := (x.toks.getLast?.map (fun t => (t.hi : Int))).getD 0
/-- Tokens in a row of their own type. -/
def TokIn (w : World) (u : Option Addr) (l : List Tok) : Prop := l = [] ∨ ∃ g off, u = some ⟨g, off, none⟩ ∧ RowOf w g ∧ TokOff w u l

/-- Rows of tokens lie as they lay. -/
def KeepsToks (V W : World) : Prop := V.heap.size ≤ W.heap.size ∧ ∀ (g : Nat) row k, V.heap[g]? = some (Obj.cells row 79 k) → W.heap[g]? = V.heap[g]?

theorem KeepsToks.refl (W : World) : KeepsToks W W := ⟨Nat.le_refl _, fun _ _ _ _ => rfl⟩
theorem KeepsToks.trans {A B C : World} (h : KeepsToks A B) (k : KeepsToks B C) : KeepsToks A C := by
  refine ⟨Nat.le_trans h.1 k.1, fun g row q hg => ?_⟩
  have h1 := h.2 g row q hg
  exact (k.2 g row q (h1.trans hg)).trans h1
theorem KeepsToks.below {A B : World} (h : Below A.heap.size A B) : KeepsToks A B := ⟨h.size, fun g _ _ hg => h.block g (Array.getElem?_eq_some_iff.1 hg).1⟩

theorem cell_of_heap {V W : World} {g : Nat} (h : W.heap[g]? = V.heap[g]?) (j : Nat) : W.cell? ⟨g, j, none⟩ = V.cell? ⟨g, j, none⟩ := by
  unfold World.cell?
  rw [show W.heap[(⟨g, j, none⟩ : Addr).block]? = V.heap[(⟨g, j, none⟩ : Addr).block]? from h]

theorem TokIn.kept {V W : World} {u : Option Addr} {l : List Tok} (h : TokIn V u l) (hk : KeepsToks V W) : TokIn W u l := by
  rcases h with h | ⟨g, off, rfl, ⟨row, k, hg⟩, ht⟩
  · exact .inl h
  · have e := hk.2 g row k hg
    refine .inr ⟨g, off, rfl, ⟨row, k, e.trans hg⟩, ?_⟩
    rcases ht with ht | ⟨g', off', hp, hg', hc⟩
    · exact .inl ht
    · cases hp
      refine .inr ⟨_, _, rfl, Nat.lt_of_lt_of_le hg' hk.1, fun i q hq => ?_⟩
      obtain ⟨h0, h1, h2, h3⟩ := hc i q hq
      exact ⟨(cell_of_heap e _).trans h0, (cell_of_heap e _).trans h1, (cell_of_heap e _).trans h2, (cell_of_heap e _).trans h3⟩
/-- What lies behind a statement. -/
def StIn (w : World) (x : St) : Prop := TokIn w x.u x.toks ∧ (∃ g, x.u = some ⟨g, 0, none⟩) ∧ x.toks.length ≤ x.d ∧ x.d ≤ 9223372036854775807
theorem StIn.kept {V W : World} {x : St} (h : StIn V x) (hk : KeepsToks V W) : StIn W x := ⟨h.1.kept hk, h.2⟩
theorem StIn.at {w : World} {x : St} (h : StIn w x) : TokAt w x.u x.toks := by
  obtain ⟨h, ⟨g0, e⟩, _⟩ := h
  intro i q hq
  rcases h with h | ⟨g, off, hp, hr, ht⟩
  · rw [h] at hq; cases hq
  · rw [e] at hp; cases hp
    rcases ht with h | ⟨g', off, hp, hg, hc⟩
    · rw [h] at hq; cases hq
    · rw [e] at hp; cases hp
      have := hc i q hq
      rw [Nat.zero_add] at this
      exact ⟨_, e, hg, this⟩

end Go.Proofs.YtpijolcklmdjbaaGreatDoor

namespace Go.Proofs.YtpijolcklmdjbaaGreatDoor

/-- The sign that parts. -/
def sgn : UInt8 × Bs := (111, [59])
end Go.Proofs.YtpijolcklmdjbaaGreatDoor
