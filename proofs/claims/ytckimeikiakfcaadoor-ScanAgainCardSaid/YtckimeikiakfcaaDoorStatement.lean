/- A statement of a row of tokens. -/
import Derived.Test.YtckimeikiakfcaaDoorIndex
import Derived.Deep.RegionHeld3
import Derived.Deep.QuietTactic
import Derived.IntWalk
namespace Go.Proofs.YtckimeikiakfcaaDoor
open Go.RowKit Go.Lib Go.WideShapes

/-- What the region reads and writes. -/
def Seen (w : World) (g o1 o2 b0 : Nat) (a b : Int) (w' : World) : Prop := (w'.cell? ⟨g, o1, none⟩ = some (.int .i64 a) ∧ w'.cell? ⟨g, o2, none⟩ = some (.int .i64 b) ∧ w'.cell? ⟨b0, 0, none⟩ = some (.slice none 0 0) ∧ w'.cell? ⟨b0, 1, none⟩ = some (.int .i64 0) ∧ w'.cell? ⟨b0, 2, none⟩ = some (.int .i64 0) ∧ w'.frozen? ⟨b0, 0, none⟩ = false ∧ w'.frozen? ⟨b0, 1, none⟩ = false ∧ w'.frozen? ⟨b0, 2, none⟩ = false) ∧ Below w.heap.size w w' ∧ w.heap.size ≤ w'.heap.size

theorem seen_step {w w' w'' : World} {g o1 o2 b0 : Nat} {a b : Int} (h : Seen w g o1 o2 b0 a b w') (hg : g < w.heap.size) (hb0 : b0 < w.heap.size) (hb : Below w'.heap.size w' w'') : Seen w g o1 o2 b0 a b w'' := by
  obtain ⟨⟨h1, h2, h3, h4, h5, h6, h7, h8⟩, h9, h10⟩ := h
  have hg' : g < w'.heap.size := Nat.lt_of_lt_of_le hg h10
  have hb' : b0 < w'.heap.size := Nat.lt_of_lt_of_le hb0 h10
  exact ⟨⟨(hb.cell hg').trans h1, (hb.cell hg').trans h2, (hb.cell hb').trans h3, (hb.cell hb').trans h4, (hb.cell hb').trans h5, (hb.frozen hb').trans h6, (hb.frozen hb').trans h7, (hb.frozen hb').trans h8⟩, h9.step hb h10, Nat.le_trans h10 hb.size⟩

/-- What the region reads. -/
def Lies (w w1 : World) (g o1 o2 : Nat) (a b : Int) (w' : World) : Prop := (w'.cell? ⟨g, o1, none⟩ = some (.int .i64 a) ∧ w'.cell? ⟨g, o2, none⟩ = some (.int .i64 b)) ∧ Below w.heap.size w w' ∧ w1.heap.size ≤ w'.heap.size

theorem lies_put {w w1 w' : World} {g o1 o2 : Nat} {a b : Int} (h : Lies w w1 g o1 o2 a b w') (hg : g < w.heap.size) (x y z : Value) : Lies w w1 g o1 o2 a b (((w'.setCell ⟨w.heap.size, 0, none⟩ x).setCell ⟨w.heap.size, 1, none⟩ y).setCell ⟨w.heap.size, 2, none⟩ z) := by
  obtain ⟨⟨h1, h2⟩, h3, h4⟩ := h
  have hne : ∀ o k, (⟨w.heap.size, k, none⟩ : Addr) ≠ ⟨g, o, none⟩ := fun o k e => by cases e; omega
  refine ⟨⟨?_, ?_⟩, ((h3.setCell (p := ⟨_, _, none⟩) (Nat.le_refl _) _).setCell (p := ⟨_, _, none⟩) (Nat.le_refl _) _).setCell (p := ⟨_, _, none⟩) (Nat.le_refl _) _, by simpa [World.setCell] using h4⟩
  · rw [World.cell?_setCell_other _ _ _ _ (hne _ _), World.cell?_setCell_other _ _ _ _ (hne _ _), World.cell?_setCell_other _ _ _ _ (hne _ _)]; exact h1
  · rw [World.cell?_setCell_other _ _ _ _ (hne _ _), World.cell?_setCell_other _ _ _ _ (hne _ _), World.cell?_setCell_other _ _ _ _ (hne _ _)]; exact h2

theorem put_cells {w : World} {b : Nat} {x0 y0 z0 : Value} (h0 : w.cell? ⟨b, 0, none⟩ = some x0) (h1 : w.cell? ⟨b, 1, none⟩ = some y0) (h2 : w.cell? ⟨b, 2, none⟩ = some z0) (x y z : Value) : (((w.setCell ⟨b, 0, none⟩ x).setCell ⟨b, 1, none⟩ y).setCell ⟨b, 2, none⟩ z).cell? ⟨b, 0, none⟩ = some x ∧ (((w.setCell ⟨b, 0, none⟩ x).setCell ⟨b, 1, none⟩ y).setCell ⟨b, 2, none⟩ z).cell? ⟨b, 1, none⟩ = some y ∧ (((w.setCell ⟨b, 0, none⟩ x).setCell ⟨b, 1, none⟩ y).setCell ⟨b, 2, none⟩ z).cell? ⟨b, 2, none⟩ = some z := by
  have n1 : (⟨b, 1, none⟩ : Addr) ≠ ⟨b, 0, none⟩ := fun e => by cases e
  have n2 : (⟨b, 2, none⟩ : Addr) ≠ ⟨b, 0, none⟩ := fun e => by cases e
  have n3 : (⟨b, 2, none⟩ : Addr) ≠ ⟨b, 1, none⟩ := fun e => by cases e
  refine ⟨?_, ?_, ?_⟩
  · rw [World.cell?_setCell_other _ _ _ _ n2, World.cell?_setCell_other _ _ _ _ n1]; exact World.cell?_setCell_same _ _ _ h0
  · rw [World.cell?_setCell_other _ _ _ _ n3]; exact World.cell?_setCell_same _ _ _ ((World.cell?_setCell_other _ _ _ _ n1.symm).trans h1)
  · exact World.cell?_setCell_same _ _ _ ((World.cell?_setCell_other _ _ _ _ n3.symm).trans ((World.cell?_setCell_other _ _ _ _ n2.symm).trans h2))

theorem rowOf_put {w : World} {b gu : Nat} (h : RowOf w gu) (hne : gu ≠ b) (x y z : Value) : RowOf (((w.setCell ⟨b, 0, none⟩ x).setCell ⟨b, 1, none⟩ y).setCell ⟨b, 2, none⟩ z) gu := by
  obtain ⟨row, k, h⟩ := h
  exact ⟨row, k, (Below.heap_setCell _ _ _ _ hne).trans ((Below.heap_setCell _ _ _ _ hne).trans ((Below.heap_setCell _ _ _ _ hne).trans h))⟩

theorem tokAt_put {w : World} {b gu : Nat} {l : List Tok} (h : TokAt w (some ⟨gu, 0, none⟩) l) (hne : gu ≠ b) (x y z : Value) : TokAt (((w.setCell ⟨b, 0, none⟩ x).setCell ⟨b, 1, none⟩ y).setCell ⟨b, 2, none⟩ z) (some ⟨gu, 0, none⟩) l := by
  intro i q hq
  obtain ⟨g, hg, hgl, h0, h1, h2, h3⟩ := h i q hq
  cases hg
  have hn : ∀ o k, (⟨b, k, none⟩ : Addr) ≠ ⟨gu, o, none⟩ := fun o k e => by cases e; exact hne rfl
  have hh : ∀ o, (((w.setCell ⟨b, 0, none⟩ x).setCell ⟨b, 1, none⟩ y).setCell ⟨b, 2, none⟩ z).cell? ⟨gu, o, none⟩ = w.cell? ⟨gu, o, none⟩ := fun o => by
    rw [World.cell?_setCell_other _ _ _ _ (hn _ _), World.cell?_setCell_other _ _ _ _ (hn _ _), World.cell?_setCell_other _ _ _ _ (hn _ _)]
  exact ⟨gu, rfl, by simpa [World.setCell] using hgl, (hh _).trans h0, (hh _).trans h1, (hh _).trans h2, (hh _).trans h3⟩

set_option maxHeartbeats 2000000 in
theorem statement_any (g off : Nat) (l : List Tok) (n c : Nat) (q0 q1 : Tok) (w : World) (hl : l.length = n) (h : TokOff w (some ⟨g, off, none⟩) l) (h0 : 0 < n) (hsz : n ≤ 2000) (hq0 : l[0]? = some q0) (hq1 : l[n - 1]? = some q1) (hg : g < w.heap.size) :
    Calls Tryd.prog 33 #[.slice (some ⟨g, off, none⟩) n c] w fun e w' => ∃ u d, e = .returned (.agg #[.slice (some ⟨u, 0, none⟩) n d, .int .i64 q0.lo, .int .i64 q1.hi]) ∧ RowOf w' u ∧ TokAt w' (some ⟨u, 0, none⟩) l ∧ Below w.heap.size w w' := by
  have HL := Lib.hid hl; have H := Lib.hid h
  have HC := Lib.hid (fun W hW => clone_toks ⟨g, off, none⟩ l n c W hl hW h0 hsz)
  have hcc : w.cell? ⟨g, off + 2, none⟩ = some (.int .i64 q0.lo) ∧ w.cell? ⟨g, off + (n - 1) * 4 + 3, none⟩ = some (.int .i64 q1.hi) := by
    rcases h with rfl | ⟨g', off', hp, _, hc⟩
    · cases hq0
    · cases hp
      refine ⟨?_, (hc _ _ hq1).2.2.2⟩
      have := (hc _ _ hq0).2.2.1
      rw [Nat.zero_mul, Nat.add_zero] at this
      exact this
  have HCC := Lib.hid hcc
  clear hl h hcc hq0 hq1
  have h0' : (0 : Int) < n := by omega
  go_enter Tryd.func33, Tryd.ntmps33
  go_wp2_with fail
  have S0 : Seen (w.alloc (Obj.cells #[.slice none 0 0, .int .i64 0, .int .i64 0] 35)) g (off + 2) (off + (n - 1) * 4 + 3) w.heap.size q0.lo q1.hi (w.alloc (Obj.cells #[.slice none 0 0, .int .i64 0, .int .i64 0] 35)) :=
    ⟨⟨Lib.cell?_alloc_some _ HCC.out.1, Lib.cell?_alloc_some _ HCC.out.2, World.cell?_alloc_new _ _ _ _, World.cell?_alloc_new _ _ _ _, World.cell?_alloc_new _ _ _ _, World.frozen?_alloc_at _ _ _ _ rfl, World.frozen?_alloc_at _ _ _ _ rfl, World.frozen?_alloc_at _ _ _ _ rfl⟩, Below.refl _ _, Nat.le_refl _⟩
  have HB1 := Lib.hid ((Below.refl w.heap.size w).alloc (Nat.le_refl _) (Obj.cells #[.slice none 0 0, .int .i64 0, .int .i64 0] 35))
  have H1 := Lib.hid (H.out.step ((Below.refl w.heap.size w).alloc (Nat.le_refl _) (Obj.cells #[.slice none 0 0, .int .i64 0, .int .i64 0] 35)))
  have hg1 : g < (w.alloc (Obj.cells #[.slice none 0 0, .int .i64 0, .int .i64 0] 35)).heap.size := by simp; omega
  have hz1 : w.heap.size < (w.alloc (Obj.cells #[.slice none 0 0, .int .i64 0, .int .i64 0] 35)).heap.size := by simp
  generalize w.alloc (Obj.cells #[.slice none 0 0, .int .i64 0, .int .i64 0] 35) = w1 at S0 HB1 H1 hg1 hz1 ⊢
  have HS := Lib.hid (fun W W' (h : Seen w1 g (off + 2) (off + (n - 1) * 4 + 3) w.heap.size q0.lo q1.hi W) (hb : Below W.heap.size W W') => seen_step h hg1 hz1 hb)
  have HD := Lib.hid (fun W (h : Seen w1 g (off + 2) (off + (n - 1) * 4 + 3) w.heap.size q0.lo q1.hi W) => show Seen w1 g (off + 2) (off + (n - 1) * 4 + 3) w.heap.size q0.lo q1.hi W.drew from ⟨h.1, h.2.1.drew, h.2.2⟩)
  have HS0 := Lib.hid S0
  have HL2 := Lib.hid (fun W (h : Seen w1 g (off + 2) (off + (n - 1) * 4 + 3) w.heap.size q0.lo q1.hi W) => show Lies w w1 g (off + 2) (off + (n - 1) * 4 + 3) q0.lo q1.hi W from ⟨⟨h.1.1, h.1.2.1⟩, HB1.out.step h.2.1 (Nat.le_of_lt hz1), h.2.2⟩)
  have HP := Lib.hid (fun W x y z (h : Lies w w1 g (off + 2) (off + (n - 1) * 4 + 3) q0.lo q1.hi W) => lies_put h hg x y z)
  have T0 := HL2.out _ S0
  clear S0
  unfold Lies at T0
  have b1 : (1 : Int) ≤ n := by omega
  have b2 : (n : Int) - 1 < n := by omega
  have wr1 : IntKind.i64.wrap ((n : Int) - 1) = (n : Int) - 1 := IntWalk.i64_in _ (by omega)
  go_region_held3 (fun w' => (w'.cell? ⟨g, off + 2, none⟩ = some (.int .i64 q0.lo) ∧ w'.cell? ⟨g, off + (n - 1) * 4 + 3, none⟩ = some (.int .i64 q1.hi)) ∧ Below w.heap.size w w' ∧ w1.heap.size ≤ w'.heap.size) (first | exact HL2.out _ (HD.out _ HS0.out) | exact S1 | exact HP.out _ _ _ _ S1) (first | (go_at_call 49; refine (HC.out _ (H1.out.step (HD.out _ HS0.out).2.1)).mono ?_; rintro e w8 ⟨gu, d, hgu, rfl, hro, hA, hb8⟩; have hgz := (HD.out _ HS0.out).2.2; have s8 := HS.out _ _ (HD.out _ HS0.out) hb8; have S1 := HL2.out _ s8; have HA8 := Lib.hid hA; have HO8 := Lib.hid hro; obtain ⟨⟨_, _, e3, e4, e5, e6, e7, e8⟩, _, _⟩ := s8; clear hA hb8 hro))
  all_goals
    have HTA := Lib.hid (tokAt_put HA8.out (show gu ≠ w.heap.size by omega) (.slice (some ⟨gu, 0, none⟩) n d) (.int .i64 q0.lo) (.int .i64 q1.hi))
    have HRO := Lib.hid (rowOf_put HO8.out (show gu ≠ w.heap.size by omega) (.slice (some ⟨gu, 0, none⟩) n d) (.int .i64 q0.lo) (.int .i64 q1.hi))
    have HBP := Lib.hid (HP.out _ (.slice (some ⟨gu, 0, none⟩) n d) (.int .i64 q0.lo) (.int .i64 q1.hi) S1).2.1
    obtain ⟨k0, k1, k2⟩ := put_cells e3 e4 e5 (.slice (some ⟨gu, 0, none⟩) n d) (.int .i64 q0.lo) (.int .i64 q1.hi)
    go_wp2
    simp [bodyPost, results, Tryd.results33, go_sem, k0, k1, k2]
    exact ⟨HRO.out, HTA.out, HBP.out⟩
end Go.Proofs.YtckimeikiakfcaaDoor
