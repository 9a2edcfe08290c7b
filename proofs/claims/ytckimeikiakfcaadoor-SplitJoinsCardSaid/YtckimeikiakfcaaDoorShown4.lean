/- The example of the chapter on splitting. -/
import Derived.Test.YtckimeikiakfcaaDoorSplit
namespace Go.Proofs.YtckimeikiakfcaaDoor
open Go.RowKit Go.Lib Go.WideShapes

theorem example4_tokens : tokens [97, 32, 59, 32, 59, 32, 98, 59] = some [⟨119, [97], 0, 1⟩, ⟨111, [59], 2, 3⟩, ⟨111, [59], 4, 5⟩, ⟨119, [98], 6, 7⟩, ⟨111, [59], 7, 8⟩] := by rfl
theorem example4_splits : splits [⟨119, [97], 0, 1⟩, ⟨111, [59], 2, 3⟩, ⟨111, [59], 4, 5⟩, ⟨119, [98], 6, 7⟩, ⟨111, [59], 7, 8⟩] = [[⟨119, [97], 0, 1⟩], [⟨119, [98], 6, 7⟩]] := by rfl

theorem StAt.get {w : World} {p : Option Addr} {l : List St} {i : Nat} {x : St} (h : StAt w p l) (hx : l[i]? = some x) : ∃ g, p = some ⟨g, 0, none⟩ ∧ g < w.heap.size ∧ w.cell? ⟨g, i * 3, none⟩ = some (.slice x.u x.toks.length x.d) ∧ w.cell? ⟨g, i * 3 + 1, none⟩ = some (.int .i64 x.lo) ∧ w.cell? ⟨g, i * 3 + 2, none⟩ = some (.int .i64 x.hi) := h i x hx

set_option maxRecDepth 100000 in
theorem shown4_true (m : Int) (w : World) (hm : w.cell? ⟨0, 0, none⟩ = some (.int .i64 m)) :
    Calls Tryd.prog 12 #[] w fun e w' => e = .returned (.bool true) ∧ Below w.heap.size w w' := by
  have HS := Lib.hid (split_any { data := #[97, 32, 59, 32, 59, 32, 98, 59] } m w (by decide) hm)
  have HF := Lib.hid (fun p u l W n k c d lo hi w h1 h2 h3 h4 h5 => first_any p u l W n k c d lo hi w h1 h2 h3 h4 h5)
  clear hm
  go_enter Tryd.func12, Tryd.ntmps12
  go_wp2_with fail
  refine HS.out.mono ?_; rintro e w1 ⟨hb1, hcs⟩
  have HB1 := Lib.hid hb1
  clear hb1 HS
  rcases hcs with ⟨hT, rfl⟩ | ⟨T, xs, n, p, c, hT, hxs, hn, hn1, hnc, rfl, hst, hin⟩
  · rw [show tokens (bytes { data := #[97, 32, 59, 32, 59, 32, 98, 59] }) = _ from example4_tokens] at hT
    cases hT
  · rw [show tokens (bytes { data := #[97, 32, 59, 32, 59, 32, 98, 59] }) = _ from example4_tokens] at hT
    cases hT
    rw [example4_splits] at hxs
    obtain ⟨x0, x1, rfl⟩ : ∃ x0 x1, xs = [x0, x1] := by
      have h := congrArg List.length hxs
      match xs, h with
      | [x0, x1], _ => exact ⟨x0, x1, rfl⟩
    obtain rfl : 2 = n := hn
    simp only [List.map_cons, List.map_nil, List.cons.injEq, and_true] at hxs
    obtain ⟨u0, d0, t0⟩ := x0
    obtain ⟨u1, d1, t1⟩ := x1
    simp only at hxs
    obtain ⟨rfl, rfl⟩ := hxs
    obtain ⟨g, rfl, hg, a0, a1, a2⟩ := hst.get (i := 0) rfl
    obtain ⟨g', hgg, _, b0, b1, b2⟩ := hst.get (i := 1) rfl
    cases hgg
    have HA := Lib.hid (hin _ (List.mem_cons_self ..)).at
    simp only [Nat.zero_mul, Nat.zero_add, Nat.one_mul, List.length_cons, List.length_nil] at a0 a1 a2 b0 b1 b2
    replace a1 : w1.cell? ⟨g, 1, none⟩ = some (.int .i64 0) := a1
    replace a2 : w1.cell? ⟨g, 2, none⟩ = some (.int .i64 1) := a2
    replace b1 : w1.cell? ⟨g, 4, none⟩ = some (.int .i64 6) := b1
    replace b2 : w1.cell? ⟨g, 5, none⟩ = some (.int .i64 7) := b2
    clear hst hin hn1 hg
    go_wp2_with fail
    have hb2 : Below w1.heap.size w1 (w1.alloc (.cells #[.string { data := #[97] }] 9)) := (Below.refl _ w1).alloc (Nat.le_refl _) _
    refine (HF.out u0 (some ⟨w1.heap.size, 0, none⟩) [⟨119, [97], 0, 1⟩] [[97]] _ _ _ _ _ _ _ rfl rfl (HA.out.step hb2) (fun i x hx => ?_) (by decide)).mono ?_
    · match i, hx with
      | 0, hx => cases hx; exact ⟨_, rfl, by simp, World.cell?_alloc_new _ _ _ _⟩
    rintro e w3 ⟨rfl, hb3⟩
    have HB3 := Lib.hid (HB1.out.step (hb2.step hb3 hb2.size) HB1.out.size)
    clear hb2 hb3
    rw [show begins [⟨119, [97], 0, 1⟩] [[97]] = true from rfl]
    go_wp2_with fail
    go_ret
    exact ⟨rfl, HB3.out⟩
end Go.Proofs.YtckimeikiakfcaaDoor
