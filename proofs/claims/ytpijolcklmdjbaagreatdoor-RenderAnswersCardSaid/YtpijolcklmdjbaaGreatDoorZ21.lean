/- Contracts and mathematics: Told, NTake, PM. -/
import Derived.Test.YtpijolcklmdjbaaGreatDoorZ20
import Derived.Test.YtpijolcklmdjbaaGreatDoorZ14
namespace Go.Proofs.YtpijolcklmdjbaaGreatDoor
open Go.RowKit Go.Lib Go.WideShapes

/-- What Scan tells: tokens, and what is wrong. -/
def told (l : Bs) : List Tok × Int := if 2000 < l.length then ([], 3) else match tokens l with
  | some ts => (ts, 0)
  | none => ([], 2)

/-- The cells of a row of tokens. -/
def TokAt (w : World) (p : Option Addr) (l : List Tok) : Prop := ∀ (i : Nat) (q : Tok), l[i]? = some q → ∃ g, p = some ⟨g, 0, none⟩ ∧ g < w.heap.size ∧ w.cell? ⟨g, i * 4, none⟩ = some (.int .u8 (q.kind.toNat : Nat)) ∧ w.cell? ⟨g, i * 4 + 1, none⟩ = some (.string ⟨q.text.toArray⟩) ∧ w.cell? ⟨g, i * 4 + 2, none⟩ = some (.int .i64 q.lo) ∧ w.cell? ⟨g, i * 4 + 3, none⟩ = some (.int .i64 q.hi)

theorem TokAt.step {w w' : World} {p : Option Addr} {l : List Tok} (h : TokAt w p l) (hb : Below w.heap.size w w') : TokAt w' p l := by
  intro i q hq
  obtain ⟨g, rfl, hg, h0, h1, h2, h3⟩ := h i q hq
  exact ⟨g, rfl, Nat.lt_of_lt_of_le hg hb.size, (hb.cell hg).trans h0, (hb.cell hg).trans h1, (hb.cell hg).trans h2, (hb.cell hg).trans h3⟩

/-- Tokens from a place of a row on. -/
def TokOff (w : World) (p : Option Addr) (l : List Tok) : Prop := l = [] ∨ ∃ g off, p = some ⟨g, off, none⟩ ∧ g < w.heap.size ∧ ∀ (i : Nat) (q : Tok), l[i]? = some q → w.cell? ⟨g, off + i * 4, none⟩ = some (.int .u8 (q.kind.toNat : Nat)) ∧ w.cell? ⟨g, off + i * 4 + 1, none⟩ = some (.string ⟨q.text.toArray⟩) ∧ w.cell? ⟨g, off + i * 4 + 2, none⟩ = some (.int .i64 q.lo) ∧ w.cell? ⟨g, off + i * 4 + 3, none⟩ = some (.int .i64 q.hi)

theorem TokAt.off {w : World} {p : Option Addr} {l : List Tok} (h : TokAt w p l) : TokOff w p l := by
  cases l with
  | nil => exact .inl rfl
  | cons t l =>
    obtain ⟨g, hp, hg, _⟩ := h 0 t rfl
    refine .inr ⟨g, 0, hp, hg, fun i q hq => ?_⟩
    obtain ⟨g', hp', _, h0⟩ := h i q hq
    rw [hp] at hp'
    cases hp'
    rw [Nat.zero_add]
    exact h0

theorem TokOff.step {w w' : World} {p : Option Addr} {l : List Tok} (h : TokOff w p l) (hb : Below w.heap.size w w') : TokOff w' p l := by
  rcases h with h | ⟨g, off, hp, hg, hc⟩
  · exact .inl h
  · refine .inr ⟨g, off, hp, Nat.lt_of_lt_of_le hg hb.size, fun i q hq => ?_⟩
    obtain ⟨h0, h1, h2, h3⟩ := hc i q hq
    exact ⟨(hb.cell hg).trans h0, (hb.cell hg).trans h1, (hb.cell hg).trans h2, (hb.cell hg).trans h3⟩

theorem TokOff.take {w : World} {p : Option Addr} {l : List Tok} (h : TokOff w p l) (k : Nat) : TokOff w p (l.take k) := by
  rcases h with rfl | ⟨g, off, hp, hg, hc⟩
  · exact .inl (by simp)
  · refine .inr ⟨g, off, hp, hg, fun i q hq => hc i q ?_⟩
    rw [List.getElem?_take] at hq
    split at hq
    · exact hq
    · cases hq

theorem TokOff.drop {w : World} {g off : Nat} {l : List Tok} (h : TokOff w (some ⟨g, off, none⟩) l) (k : Nat) : TokOff w (some ⟨g, off + k * 4, none⟩) (l.drop k) := by
  rcases h with rfl | ⟨g, off, hp, hg, hc⟩
  · exact .inl (by simp)
  · cases hp
    refine .inr ⟨_, _, rfl, hg, fun i q hq => ?_⟩
    rw [List.getElem?_drop] at hq
    have := hc (k + i) q hq
    rw [show off + k * 4 + i * 4 = off + (k + i) * 4 by omega]
    exact this

end Go.Proofs.YtpijolcklmdjbaaGreatDoor

namespace Go.Proofs.YtpijolcklmdjbaaGreatDoor
open Go.RowKit Go.Lib Go.WideShapes

/-- May a token be a part of a name? -/
def nm (t : Tok) : Bool := t.kind == 119 || t.kind == 113
def foldB (l : Bs) : Bs := l.map low
/-- What is taken, as it stands, and of how many tokens. -/
def takes : List Tok → Bs × Nat
  | t :: u :: v :: _ => if (u.kind == 111 && u.text == [46]) && nm v then (foldB t.text ++ 46 :: foldB v.text, 3) else (foldB t.text, 1)
  | t :: _ => (foldB t.text, 1)
  | [] => ([], 0)
def nmHead : List Tok → Bool
  | t :: _ => nm t
  | [] => false
def takeB (l : List Tok) : Bs × Nat := if nmHead l && goodB (takes l).1 then takes l else ([], 0)

theorem TokOff.get {w : World} {g off : Nat} {l : List Tok} (h : TokOff w (some ⟨g, off, none⟩) l) {i : Nat} {q : Tok} (hq : l[i]? = some q) : g < w.heap.size ∧ w.cell? ⟨g, off + i * 4, none⟩ = some (.int .u8 (q.kind.toNat : Nat)) ∧ w.cell? ⟨g, off + i * 4 + 1, none⟩ = some (.string ⟨q.text.toArray⟩) ∧ w.cell? ⟨g, off + i * 4 + 2, none⟩ = some (.int .i64 q.lo) ∧ w.cell? ⟨g, off + i * 4 + 3, none⟩ = some (.int .i64 q.hi) := by
  rcases h with h | ⟨g', off', hp, hg, hc⟩
  · rw [h] at hq; cases hq
  · cases hp; exact ⟨hg, hc i q hq⟩

end Go.Proofs.YtpijolcklmdjbaaGreatDoor

namespace Go.Proofs.YtpijolcklmdjbaaGreatDoor
open Go.RowKit Go.Lib Go.WideShapes

/-- The words that are barred. -/
def barredL : List Bs := [[115, 101, 116], [114, 101, 115, 101, 116], [100, 105, 115, 99, 97, 114, 100], [98, 101, 103, 105, 110], [115, 116, 97, 114, 116], [99, 111, 109, 109, 105, 116], [101, 110, 100], [114, 111, 108, 108, 98, 97, 99, 107], [97, 98, 111, 114, 116], [115, 97, 118, 101, 112, 111, 105, 110, 116], [114, 101, 108, 101, 97, 115, 101], [115, 104, 111, 119], [108, 105, 115, 116, 101, 110], [117, 110, 108, 105, 115, 116, 101, 110], [112, 114, 101, 112, 97, 114, 101], [101, 120, 101, 99, 117, 116, 101], [100, 101, 97, 108, 108, 111, 99, 97, 116, 101], [100, 101, 99, 108, 97, 114, 101], [108, 111, 97, 100], [99, 111, 112, 121]]
/-- What is asked for. -/
structure Cmd where
  kind : UInt8
  name : Bs
  value : Bs
end Go.Proofs.YtpijolcklmdjbaaGreatDoor
