/- A part of a row of tokens; slices.Clone over tokens. -/
import Derived.Test.YtckimeikiakfcaaDoorFirst
import Derived.StillTailTactics
import Derived.WalkSpells
namespace Go.Proofs.YtckimeikiakfcaaDoor
open Go.RowKit Go.Lib Go.WideShapes

theorem tokC_cell : ∀ (l : List Tok) (j : Nat) (u : Value), (tokC l)[j]? = some u → ∃ i q, l[i]? = some q ∧ ((j = i * 4 ∧ u = .int .u8 (q.kind.toNat : Nat)) ∨ (j = i * 4 + 1 ∧ u = .string ⟨q.text.toArray⟩) ∨ (j = i * 4 + 2 ∧ u = .int .i64 q.lo) ∨ (j = i * 4 + 3 ∧ u = .int .i64 q.hi)) := by
  intro l
  induction l with
  | nil => intro j u h; cases h
  | cons t l ih =>
    intro j u h
    match j with
    | 0 => cases h; exact ⟨0, t, rfl, .inl ⟨rfl, rfl⟩⟩
    | 1 => cases h; exact ⟨0, t, rfl, .inr (.inl ⟨rfl, rfl⟩)⟩
    | 2 => cases h; exact ⟨0, t, rfl, .inr (.inr (.inl ⟨rfl, rfl⟩))⟩
    | 3 => cases h; exact ⟨0, t, rfl, .inr (.inr (.inr ⟨rfl, rfl⟩))⟩
    | j + 4 =>
      obtain ⟨i, q, hq, hh⟩ := ih j u h
      refine ⟨i + 1, q, hq, ?_⟩
      rcases hh with ⟨h1, h2⟩ | ⟨h1, h2⟩ | ⟨h1, h2⟩ | ⟨h1, h2⟩
      · exact .inl ⟨by omega, h2⟩
      · exact .inr (.inl ⟨by omega, h2⟩)
      · exact .inr (.inr (.inl ⟨by omega, h2⟩))
      · exact .inr (.inr (.inr ⟨by omega, h2⟩))

theorem TokOff.cells {w : World} {p : Addr} {l : List Tok} (h : TokOff w (some p) l) (j : Nat) (u : Value) (hu : (tokC l)[j]? = some u) : w.cell? (p.add j) = some u := by
  rcases h with rfl | ⟨g, off, hp, _, hc⟩
  · cases hu
  · cases hp
    obtain ⟨i, q, hq, hh⟩ := tokC_cell l j u hu
    obtain ⟨h0, h1, h2, h3⟩ := hc i q hq
    rw [add_plain]
    rcases hh with ⟨rfl, rfl⟩ | ⟨rfl, rfl⟩ | ⟨rfl, rfl⟩ | ⟨rfl, rfl⟩
    · exact h0
    · exact h1
    · exact h2
    · exact h3

theorem tokC_one (l : List Tok) : ∀ u ∈ tokC l, u.oneCell' = true := by
  intro u hu
  simp only [tokC, List.mem_flatMap, List.mem_cons, List.not_mem_nil, or_false] at hu
  obtain ⟨q, _, rfl | rfl | rfl | rfl⟩ := hu <;> rfl

/-- Block g is a row of tokens. -/
def RowOf (w : World) (g : Nat) : Prop := ∃ row k, w.heap[g]? = some (Obj.cells row 28 k)

theorem rowAt {w : World} {B : Nat} {v : Value} {l : List Tok} (h : w.ownsRow B 28 4 v l.length (tokC l)) (h0 : 0 < l.length) : ∃ g d, B ≤ g ∧ v = .slice (some ⟨g, 0, none⟩) l.length d ∧ RowOf w g ∧ TokAt w (some ⟨g, 0, none⟩) l := by
  have hrow : ∀ g c, v = .slice (some ⟨g, 0, none⟩) l.length c → RowOf w g := by
    intro g c e
    rcases h.2 with ⟨rfl, _⟩ | ⟨g', cap, cur, rfl, _, hg, _⟩
    · cases e
    · cases e; exact ⟨_, _, hg⟩
  obtain ⟨g, cap, rfl, _, _, hB, hg, hc⟩ := tok_cells h h0
  refine ⟨_, _, hB, rfl, hrow _ _ rfl, fun i q hq => ?_⟩
  obtain ⟨h0, h1, h2, h3⟩ := tokC_at l i q hq
  exact ⟨g, rfl, hg, hc _ _ h0, hc _ _ h1, hc _ _ h2, hc _ _ h3⟩

set_option maxHeartbeats 2000000 in
theorem clone_toks (ad : Addr) (l : List Tok) (n c : Nat) (w : World) (hl : l.length = n) (h : TokOff w (some ad) l) (h0 : 0 < n) (hsz : n ≤ 2000) :
    Calls Tryd.prog 49 #[.slice (some ad) n c] w fun e w' => ∃ g d, w.heap.size ≤ g ∧ e = .returned (.slice (some ⟨g, 0, none⟩) n d) ∧ RowOf w' g ∧ TokAt w' (some ⟨g, 0, none⟩) l ∧ Below w.heap.size w w' := by
  obtain ⟨i0, hi, y0, y1, y2⟩ := info_parts Tryd.info28
  have q22 : ∀ (w : World) (a : Option Addr) (n c n' c' : Nat), (binOp .eql 23 (.slice a n c) (.slice none n' c')).run Tryd.prog w = .ok (.bool a.isNone) w := fun w a n c n' c' => Lib.run_eql_slice_nil w _ _ a n c n' c' Tryd.underlying23
  have H := Lib.hid h
  clear h
  subst hl
  go_enter Tryd.func49, Tryd.ntmps49
  go_wp2_with (at_builtin; refine wpList_append_own_wide _ rfl _ _ 23 rfl w.heap.size 28 i0 (.agg #[.int .u8 0, .string { data := #[] }, .int .i64 0, .int .i64 0]) 4 40 Tryd.underlying23 hi y0 y1 y2 rfl (by decide) _ _ _ rfl (World.ownsRow_made w #[] 0 (Nat.le_refl _) (Nat.zero_le _) (by simp)) ad l.length c (tokC l) rfl ?c1 ?c2 ?c3 ?c4 ?c5 ?c6 ?_)
  case c1 => exact tokC_len l
  case c2 => intro j u hj; exact Lib.cell?_alloc_some _ (H.out.cells j u hj)
  case c3 => exact tokC_one l
  case c4 => unfold maxLen; omega
  case c5 => omega
  case c6 => simp
  intro v' w1 hown hgrow _
  have hB : Below w.heap.size w w1 := below_grown ((Below.refl _ w).alloc (Nat.le_refl _) _) (by simp) hgrow (by intro k hk; simp [Value.ownBlock] at hk; omega)
  obtain ⟨u, d, hu, rfl, hr, hA⟩ := rowAt (by simpa using hown) h0
  have HA := Lib.hid hA; have HB := Lib.hid hB; have HG := Lib.hid hu; have HR := Lib.hid hr
  clear hA hB hown hgrow hu hr
  go_wp2
  go_ret
  exact ⟨u, d, HG.out, rfl, HR.out, HA.out, HB.out⟩
end Go.Proofs.YtckimeikiakfcaaDoor
