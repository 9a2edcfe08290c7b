/- Scan; the chapter's example. -/
import Derived.Test.YtckimeikiakfcaaScan
namespace Go.Proofs.Ytckimeikiakfcaa
open Go.RowKit Go.Lib Go.WideShapes

/-- What Scan tells: tokens, and what is wrong. -/
def told (l : Bs) : List Tok × Int := if 2000 < l.length then ([], 3) else match tokens l with
  | some ts => (ts, 0)
  | none => ([], 2)

/-- What Scan leaves. -/
def Read (w : World) (R : List Tok × Int) (e : Ending) (w' : World) : Prop := ∃ v, e = .returned (.tuple #[v, .int .i64 R.2]) ∧ w'.ownsRow w.heap.size 28 4 v R.1.length (tokC R.1) ∧ Below w.heap.size w w'

theorem scan_any (s : ByteArray) (m : Int) (w : World) (hs : s.size ≤ 9223372036854775807) (hm : w.cell? ⟨0, 0, none⟩ = some (.int .i64 m)) :
    Calls Try.prog 8 #[.string s] w (Read w (told (bytes s))) := by
  by_cases h : 2000 < s.size
  · have hR : told (bytes s) = ([], 3) := by unfold told; rw [if_pos (by rw [bytes_len]; exact h)]
    rw [hR]
    have h' : (2000 : Int) < s.size := by omega
    clear hR hm
    go_enter Try.func8, Try.ntmps8
    go_wp2_with fail
    go_ret2
    exact ⟨_, rfl, World.ownsRow_nil _ _ _ _, Below.refl _ _⟩
  · have hR : told (bytes s) = match tokens (bytes s) with | some ts => (ts, 0) | none => ([], 2) := by unfold told; rw [if_neg (by rw [bytes_len]; exact h)]
    rw [hR]
    have h' : (s.size : Int) ≤ 2000 := by omega
    have HT := Lib.hid (tokens_any s m w (by omega) hm)
    obtain ⟨R, hRR⟩ : ∃ R, R = tokens (bytes s) := ⟨_, rfl⟩
    rw [← hRR] at HT ⊢
    clear hR hm hRR
    go_enter Try.func8, Try.ntmps8
    go_wp2_with fail
    refine HT.out.mono ?_; rintro e w1 ⟨hS, hN, hB⟩
    have HB := Lib.hid hB
    clear hB
    cases R with
    | none =>
      obtain rfl := hN rfl
      clear hN hS HT
      go_wp2_with fail
      go_ret2
      exact ⟨_, rfl, World.ownsRow_nil _ _ _ _, HB.out⟩
    | some ts =>
      obtain ⟨v, rfl, hO⟩ := hS ts rfl
      have HO := Lib.hid hO
      clear hN hS hO HT
      go_wp2_with fail
      go_ret2
      exact ⟨_, rfl, HO.out, HB.out⟩

/-- The cells of a row of tokens. -/
theorem tok_cells {w : World} {B : Nat} {v : Value} {ts : List Tok} (h : w.ownsRow B 28 4 v ts.length (tokC ts)) (h0 : 0 < ts.length) :
    ∃ g cap, v = .slice (some ⟨g, 0, none⟩) ts.length cap ∧ ts.length ≤ cap ∧ cap ≤ 9223372036854775807 ∧ B ≤ g ∧ g < w.heap.size ∧ ∀ j u, (tokC ts)[j]? = some u → w.cell? ⟨g, j, none⟩ = some u := by
  have hr := h
  rcases h.2 with ⟨_, hn⟩ | ⟨g, cap, cur, rfl, hb, hg, hn, hc, _⟩
  · omega
  · refine ⟨g, cap, rfl, hn, by unfold maxLen at hc; omega, hb, (Array.getElem?_eq_some_iff.1 hg).1, fun j u hu => ?_⟩
    have := hr.cells (g := g) rfl j u hu
    rw [add_plain, Nat.zero_add] at this
    exact this

set_option maxRecDepth 100000 in
theorem shown_true (m : Int) (w : World) (hm : w.cell? ⟨0, 0, none⟩ = some (.int .i64 m)) :
    Calls Try.prog 7 #[] w fun e w' => e = .returned (.bool true) ∧ Below w.heap.size w w' := by
  have hT : told (bytes { data := #[83, 101, 116, 32, 120, 61, 69, 39, 97, 92, 39, 98, 39, 32, 45, 45, 32, 99] }) = ([⟨119, [115, 101, 116], 0, 3⟩, ⟨119, [120], 4, 5⟩, ⟨111, [61], 5, 6⟩, ⟨115, [97, 39, 98], 6, 13⟩], 0) := by
    unfold told
    rw [if_neg (by decide), show tokens (bytes { data := #[83, 101, 116, 32, 120, 61, 69, 39, 97, 92, 39, 98, 39, 32, 45, 45, 32, 99] }) = _ from example_tokens]
  have HS := Lib.hid (scan_any { data := #[83, 101, 116, 32, 120, 61, 69, 39, 97, 92, 39, 98, 39, 32, 45, 45, 32, 99] } m w (by decide) hm)
  rw [hT] at HS
  clear hT hm
  go_enter Try.func7, Try.ntmps7
  go_wp2_with fail
  refine HS.out.mono ?_; rintro e w1 ⟨v, rfl, hO, hB⟩
  obtain ⟨g, cap, rfl, hn, hcm, _, _, hc⟩ := tok_cells hO (by decide)
  have a0 : w1.cell? ⟨g, 0, none⟩ = some (.int .u8 119) := hc 0 _ rfl
  have a1 : w1.cell? ⟨g, 1, none⟩ = some (.string { data := #[115, 101, 116] }) := hc 1 _ rfl
  have a2 : w1.cell? ⟨g, 8, none⟩ = some (.int .u8 111) := hc 8 _ rfl
  have a3 : w1.cell? ⟨g, 12, none⟩ = some (.int .u8 115) := hc 12 _ rfl
  have a4 : w1.cell? ⟨g, 13, none⟩ = some (.string { data := #[97, 39, 98] }) := hc 13 _ rfl
  have HB := Lib.hid hB
  clear hc hO hB HS
  go_wp2_with fail
  go_ret
  exact ⟨rfl, HB.out⟩
end Go.Proofs.Ytckimeikiakfcaa
