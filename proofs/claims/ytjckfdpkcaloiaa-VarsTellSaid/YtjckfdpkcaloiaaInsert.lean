/- slices.Insert of one pair, into a row of the call's own. -/
import Derived.Test.YtjckfdpkcaloiaaDelete
import Derived.Lib.AppendZeros
import Derived.Lib.AppendZerosOnto
import Derived.Lib.Overlaps
import Derived.Laws.Externs
namespace Go.Proofs.Ytjckfdpkcaloiaa
open Go.RowKit Go.Lib Go.WideShapes

/-- A block of its own that holds one pair. -/
structure Box (w : World) (vb : Nat) (x y : ByteArray) : Prop where
  c0 : w.cell? ⟨vb, 0, none⟩ = some (.string x)
  c1 : w.cell? ⟨vb, 1, none⟩ = some (.string y)
  fz : ∀ j, w.frozen? ⟨vb, j, none⟩ = false
  sh : w.shape? vb = some (43, 2)

theorem Box.cells {w : World} {vb : Nat} {x y : ByteArray} (h : Box w vb x y) : ∀ j u, [Value.string x, Value.string y][j]? = some u → w.cell? ((⟨vb, 0, none⟩ : Addr).add j) = some u := by
  intro j u hu
  rw [add_plain, Nat.zero_add]
  match j with
  | 0 => simp at hu; rw [← hu]; exact h.c0
  | 1 => simp at hu; rw [← hu]; exact h.c1
  | j + 2 => simp at hu

theorem Box.lt {w : World} {vb : Nat} {x y : ByteArray} (h : Box w vb x y) : vb < w.heap.size := block_lt_of_cell (a := ⟨vb, 0, none⟩) h.c0

set_option maxHeartbeats 4000000 in
theorem insert_end (v : Value) (g : Pairs) (x y : ByteArray) (vb base : Nat) (w : World) (h : w.ownsRow base 43 2 v g.length (pairCells g)) (hb : Box w vb x y) (hsz : g.length ≤ 7000) (hbase : base ≤ w.heap.size) :
    Calls Try.prog 24 #[v, .int .i64 g.length, .slice (some ⟨vb, 0, none⟩) 1 1] w fun e w' => ∃ u, e = .returned u ∧ Holds w' u (g ++ [(x, y)]) ∧ Below base w w' := by
  obtain ⟨i0, hi, y0, y1, y2⟩ := info_parts Try.info43
  obtain ⟨a, c, rfl⟩ := ownsRow_form h
  have hnc : g.length ≤ c := by
    rcases h.2 with ⟨hv, h0⟩ | ⟨g', cap', cur, hv, hb, hg, hn, hc, hcs, ht⟩
    · omega
    · simp only [Value.slice.injEq] at hv; obtain ⟨_, _, rfl⟩ := hv; exact hn
  have hcm : c ≤ 9223372036854775807 := by
    rcases h.2 with ⟨hv, h0⟩ | ⟨g', cap', cur, hv, hb, hg, hn, hc, hcs, ht⟩
    · simp only [Value.slice.injEq] at hv; obtain ⟨_, _, rfl⟩ := hv; decide
    · simp only [Value.slice.injEq] at hv; obtain ⟨_, _, rfl⟩ := hv; unfold maxLen at hc; omega
  have H := Lib.hid h; have HB := Lib.hid hb
  obtain ⟨n, hn⟩ : ∃ n, n = g.length := ⟨_, rfl⟩
  rw [← hn] at hnc hsz
  clear h hb
  rw [← hn]
  have HN := Lib.hid hn
  clear hn
  have fin : ∀ v' w', w'.ownsRow base 43 2 v' (n + 1) (pairCells g ++ [.string x, .string y]) → w.grownBy w' (Value.slice a n c).ownBlock → Holds w' v' (g ++ [(x, y)]) ∧ Below base w w' := by
    intro v' w' h1 h2
    rw [HN.out, ← pairCells_snoc g (x, y), show g.length + 1 = (g ++ [(x, y)]).length by simp] at h1
    exact ⟨own_holds h1, below_grown (Below.refl base w) hbase h2 (fun k hk => (H.out.lt k (by rw [← HN.out]; exact hk)).1)⟩
  have FIN := Lib.hid fin
  clear fin
  have hO : w.ownsRow base 43 2 (.slice a n c) n (pairCells g) := by rw [HN.out]; exact H.out
  have HO := Lib.hid hO
  clear hO
  cases a with
  | none =>
    have hcn : c = n := by
      rcases H.out.2 with ⟨hv, h0⟩ | ⟨g', cap', cur, hv, _⟩
      · simp only [Value.slice.injEq, true_and] at hv; have := HN.out; omega
      · cases hv
    subst hcn
    go_enter Try.func24, Try.ntmps24
    go_wp2_with (at_builtin; refine wpList_append_own_wide _ rfl (.tmp 23) (.tmp 24) 22 rfl base 43 i0 (.agg #[.string { data := #[] }, .string { data := #[] }]) 2 32 Try.underlying22 hi y0 y1 y2 rfl (by decide) (.slice none c c) c (pairCells g) rfl HO.out ⟨vb, 0, none⟩ 1 1 [.string x, .string y] rfl rfl HB.out.cells (by intro u hu; simp at hu; rcases hu with rfl | rfl <;> rfl) (by unfold maxLen; omega) (by omega) hbase ?_)
    intro v' w' h1 h2 _
    have HX := Lib.hid (FIN.out v' w' h1 h2)
    clear h1 h2
    go_wp2_with fail
    go_ret
    exact ⟨v', rfl, HX.out⟩
  | some ad =>
    by_cases hcn : c = n
    · subst hcn
      go_enter Try.func24, Try.ntmps24
      go_wp2_with (at_builtin; refine wpList_append_own_wide _ rfl (.tmp 23) (.tmp 24) 22 rfl base 43 i0 (.agg #[.string { data := #[] }, .string { data := #[] }]) 2 32 Try.underlying22 hi y0 y1 y2 rfl (by decide) (.slice (some ad) c c) c (pairCells g) rfl HO.out ⟨vb, 0, none⟩ 1 1 [.string x, .string y] rfl rfl HB.out.cells (by intro u hu; simp at hu; rcases hu with rfl | rfl <;> rfl) (by unfold maxLen; omega) (by omega) hbase ?_)
      intro v' w' h1 h2 _
      have HX := Lib.hid (FIN.out v' w' h1 h2)
      clear h1 h2
      go_wp2_with fail
      go_ret
      exact ⟨v', rfl, HX.out⟩
    · have hcn' : ¬ c = n := hcn
      go_enter Try.func24, Try.ntmps24
      go_wp2_with (at_builtin; refine wpList_append_own_wide _ rfl (.tmp 23) (.tmp 24) 22 rfl base 43 i0 (.agg #[.string { data := #[] }, .string { data := #[] }]) 2 32 Try.underlying22 hi y0 y1 y2 rfl (by decide) (.slice (some ad) n c) n (pairCells g) rfl HO.out ⟨vb, 0, none⟩ 1 1 [.string x, .string y] rfl rfl HB.out.cells (by intro u hu; simp at hu; rcases hu with rfl | rfl <;> rfl) (by unfold maxLen; omega) (by omega) hbase ?_)
      intro v' w' h1 h2 _
      have HX := Lib.hid (FIN.out v' w' h1 h2)
      clear h1 h2
      go_wp2_with fail
      go_ret
      exact ⟨v', rfl, HX.out⟩
end Go.Proofs.Ytjckfdpkcaloiaa
