/- One: the one statement of a text. -/
import Derived.Test.YtckimeikiakfcaaDoorSplit
namespace Go.Proofs.YtckimeikiakfcaaDoor
open Go.RowKit Go.Lib Go.WideShapes

/-- What One answers. -/
def OneSaid (s : ByteArray) (w : World) (e : Ending) (w' : World) : Prop := Below w.heap.size w w' ∧
  ((tokens (bytes s) = none ∧ e = .returned (.tuple #[.agg #[.slice none 0 0, .int .i64 0, .int .i64 0], .bool false, .int .i64 2])) ∨
   (∃ T, tokens (bytes s) = some T ∧ (splits T).length ≠ 1 ∧ e = .returned (.tuple #[.agg #[.slice none 0 0, .int .i64 0, .int .i64 0], .bool false, .int .i64 0])) ∨
   ∃ (T : List Tok) (x : St), tokens (bytes s) = some T ∧ splits T = [x.toks] ∧ e = .returned (.tuple #[.agg #[.slice x.u x.toks.length x.d, .int .i64 x.lo, .int .i64 x.hi], .bool true, .int .i64 0]) ∧ StIn w' x)

theorem keeps_set {V : World} {l i : Nat} {c : Array Value} (hV : V.heap[l]? = some (.cells c 35)) (v : Value) : KeepsToks V (V.setCell ⟨l, i, none⟩ v) := by
  refine ⟨(KeepsWalks.setCell V _ v).size, fun g row k hg => Below.heap_setCell _ _ _ g fun e => ?_⟩
  have e : g = l := e
  subst e
  rw [hV] at hg; simp at hg
theorem keeps_three {V : World} {l : Nat} {c : Array Value} (hV : V.heap[l]? = some (.cells c 35)) (x y z : Value) : KeepsToks V (((V.setCell ⟨l, 0, none⟩ x).setCell ⟨l, 1, none⟩ y).setCell ⟨l, 2, none⟩ z) := by
  have h1 := heap_setCell_same V l 0 c _ x hV
  have h2 := heap_setCell_same _ l 1 _ _ y h1
  exact ((keeps_set hV x).trans (keeps_set h1 y)).trans (keeps_set h2 z)

set_option maxRecDepth 100000 in
theorem one_any (s : ByteArray) (m : Int) (w : World) (hs : s.size ≤ 2000) (hm : w.cell? ⟨0, 0, none⟩ = some (.int .i64 m)) :
    Calls Tryd.prog 14 #[.string s] w (OneSaid s w) := by
  have HW0 := Lib.hid (World.block_lt_of_cell? w ⟨0, 0, none⟩ hm)
  have HM := Lib.hid hm
  have HSP := Lib.hid (fun (W : World) h2 => split_any s m W hs h2)
  have HS := Lib.hid hs
  clear hm hs
  go_enter Tryd.func14, Tryd.ntmps14
  have HB0 := Lib.hid ((Below.refl _ w).alloc (Nat.le_refl _) (.cells #[.slice none 0 0, .int .i64 0, .int .i64 0] 35))
  have hz : (w.alloc (.cells #[.slice none 0 0, .int .i64 0, .int .i64 0] 35)).heap.size = w.heap.size + 1 := by simp
  go_wp2_with fail
  refine (HSP.out _ ((HB0.out.cell HW0.out).trans HM.out)).mono ?_; rintro e w1 ⟨hb1, hcs⟩
  have b0 : w1.cell? ⟨w.heap.size, 0, none⟩ = some (.slice none 0 0) := (hb1.cell (p := ⟨w.heap.size, 0, none⟩) (by rw [hz]; exact Nat.lt_succ_self _)).trans (World.cell?_alloc_new _ _ _ _)
  have b1 : w1.cell? ⟨w.heap.size, 1, none⟩ = some (.int .i64 0) := (hb1.cell (p := ⟨w.heap.size, 1, none⟩) (by rw [hz]; exact Nat.lt_succ_self _)).trans (World.cell?_alloc_new _ _ _ _)
  have b2 : w1.cell? ⟨w.heap.size, 2, none⟩ = some (.int .i64 0) := (hb1.cell (p := ⟨w.heap.size, 2, none⟩) (by rw [hz]; exact Nat.lt_succ_self _)).trans (World.cell?_alloc_new _ _ _ _)
  have hlt : w.heap.size < (w.alloc (.cells #[.slice none 0 0, .int .i64 0, .int .i64 0] 35)).heap.size := by rw [hz]; exact Nat.lt_succ_self _
  have f0 : w1.frozen? ⟨w.heap.size, 0, none⟩ = false := (hb1.frozen (p := ⟨w.heap.size, 0, none⟩) hlt).trans (World.frozen?_alloc_new _ _ _ _)
  have f1 : w1.frozen? ⟨w.heap.size, 1, none⟩ = false := (hb1.frozen (p := ⟨w.heap.size, 1, none⟩) hlt).trans (World.frozen?_alloc_new _ _ _ _)
  have f2 : w1.frozen? ⟨w.heap.size, 2, none⟩ = false := (hb1.frozen (p := ⟨w.heap.size, 2, none⟩) hlt).trans (World.frozen?_alloc_new _ _ _ _)
  have HLT := Lib.hid hlt
  have HB1 := Lib.hid (HB0.out.step hb1 HB0.out.size)
  have HBS := Lib.hid hb1
  have HOB := Lib.hid (show w1.heap[w.heap.size]? = some (.cells #[.slice none 0 0, .int .i64 0, .int .i64 0] 35) from (hb1.block _ hlt).trans (heap_alloc_new _ _))
  have HPC := Lib.hid (fun x y z => put_cells b0 b1 b2 x y z)
  have HBP := Lib.hid (show ∀ x y z, Below w.heap.size w (((w1.setCell ⟨w.heap.size, 0, none⟩ x).setCell ⟨w.heap.size, 1, none⟩ y).setCell ⟨w.heap.size, 2, none⟩ z) from fun x y z => ((HB1.out.setCell (Nat.le_refl w.heap.size) x).setCell (Nat.le_refl w.heap.size) y).setCell (Nat.le_refl w.heap.size) z)
  clear hb1 HSP HB0 hlt hz
  rcases hcs with ⟨hT, rfl⟩ | ⟨T, xs, n, p, c, hT, hxs, hn, hn1, hnc, rfl, hst, hin⟩
  · have HT := Lib.hid hT
    clear hT
    go_wp2_with fail
    obtain ⟨k0, k1, k2⟩ := HPC.out (.slice none 0 0) (.int .i64 0) (.int .i64 0)
    simp [bodyPost, results, Tryd.results14, go_sem, k0, k1, k2]
    exact ⟨HBP.out _ _ _, .inl ⟨HT.out, rfl⟩⟩
  · by_cases h1 : n = 1
    · subst h1
      match xs, hn with
      | [x], _ =>
        obtain ⟨g, rfl, hg, a0, a1, a2⟩ := hst 0 x rfl
        simp only [Nat.zero_mul, Nat.zero_add] at a0 a1 a2
        have HIN := Lib.hid (hin _ (List.mem_cons_self ..))
        have HT := Lib.hid hT; have HX := Lib.hid hxs
        clear hT hxs hst hin
        go_wp2_with fail
        obtain ⟨k0, k1, k2⟩ := HPC.out (.slice x.u x.toks.length x.d) (.int .i64 x.lo) (.int .i64 x.hi)
        simp [bodyPost, results, Tryd.results14, go_sem, k0, k1, k2]
        exact ⟨HBP.out _ _ _, .inr (.inr ⟨T, x, HT.out, HX.out.symm, rfl, HIN.out.kept (keeps_three HOB.out _ _ _)⟩)⟩
    · have HT := Lib.hid hT
      have hn1' : ((n : Int) == 1) = false := by rw [beq_eq_false_iff_ne]; omega
      have HN := Lib.hid (show (splits T).length ≠ 1 by rw [← hxs, List.length_map, hn]; exact h1)
      clear hT hxs hst hin hn hn1 hnc h1
      go_wp2_with fail
      obtain ⟨k0, k1, k2⟩ := HPC.out (.slice none 0 0) (.int .i64 0) (.int .i64 0)
      simp [bodyPost, results, Tryd.results14, go_sem, k0, k1, k2]
      exact ⟨HBP.out _ _ _, .inr (.inl ⟨T, HT.out, HN.out, rfl⟩)⟩
end Go.Proofs.YtckimeikiakfcaaDoor
