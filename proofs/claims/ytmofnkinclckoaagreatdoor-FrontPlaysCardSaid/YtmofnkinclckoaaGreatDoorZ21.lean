/- Contracts and mathematics: KEvent, KEventB, NextA, NextB, NextC. -/
import Derived.Test.YtmofnkinclckoaaGreatDoorZ19
import Derived.Test.YtmofnkinclckoaaGreatDoorZ20
import Derived.Test.YtmofnkinclckoaaGreatDoorRows
namespace Go.Proofs.YtmofnkinclckoaaGreatDoor
open Go.RowKit Go.Lib Go.WideShapes

/-- The numbers of an event, that lie where Q says. -/
def EvNums (w : World) (Q : Nat → Prop) (n : List Int) (sl : Value) : Prop := ∃ b m d, sl = .slice b m d ∧ NumsIn w (.slice b m d) n ∧ (n ≠ [] → ∀ g off, b = some ⟨g, off, none⟩ → Q g)
theorem numsK_nil (w : World) : NumsIn w (.slice none 0 0) [] := ⟨none, 0, 0, rfl, rfl, Nat.le_refl _, by omega, .inl rfl⟩
theorem evNums_nil (w : World) (Q : Nat → Prop) : EvNums w Q [] (.slice none 0 0) := ⟨none, 0, 0, rfl, numsK_nil w, fun h => absurd rfl h⟩
theorem EvNums.mono {w w' : World} {Q : Nat → Prop} {n : List Int} {sl : Value} (h : EvNums w Q n sl) (hb : Below w.heap.size w w') : EvNums w' Q n sl := by
  obtain ⟨b, m, d, h1, h2, h3⟩ := h
  exact ⟨b, m, d, h1, h2.mono hb, h3⟩
theorem nums_tail {w : World} {g off c k : Nat} {x : Int} {N : List Int} (h : NumsIn w (.slice (some ⟨g, off, none⟩) (k + 1) c) (x :: N)) : NumsIn w (.slice (some ⟨g, off + 1, none⟩) k (c - 1)) N := by
  obtain ⟨a', n', c', hva, hl, hnc, hc9, hr⟩ := h
  injection hva with e1 e2 e3
  subst e1 e2 e3
  refine ⟨_, k, c - 1, rfl, by simpa using hl, by omega, by omega, ?_⟩
  rcases hr with hr | ⟨g', off', e, hg, hc⟩
  · cases hr
  · cases e
    refine .inr ⟨g, off + 1, rfl, hg, fun i t ht => ?_⟩
    have := hc (i + 1) t (by simpa using ht)
    rw [show off + 1 + i = off + (i + 1) by omega]
    exact this
set_option maxRecDepth 100000 in
set_option maxHeartbeats 8000000 in
theorem beginning_any (c0 : Int) (n c m d : Nat) (a b : Option Addr) (T : List Bs) (N : List Int) (w : World) (hT : TextsIn w (.slice a n c) T) (hN : NumsIn w (.slice b m d) N) (hn : n ≤ 800000) (h0 : ∃ x r, N = x :: r ∧ (x = 80877102 → ∃ p q, r = [p, q])) :
    Calls Tryz.prog 26 #[.agg #[.int .u8 c0, .slice a n c, .slice b m d]] w fun e w' => ∃ sl, e = .returned (evV (beginE T N) sl) ∧ EvNums w' (fun g => ∃ off, b = some ⟨g, off, none⟩) (beginE T N).n sl ∧ Below w.heap.size w w' := by
  obtain ⟨x, r, rfl, hx⟩ := h0
  have HN := Lib.hid hN
  obtain ⟨a', n', c', hva, hl, hnc, hc9, hr⟩ := hN
  injection hva with e1 e2 e3
  subst e1 e2 e3
  rcases hr with hr | ⟨g, off, rfl, hg, hc⟩
  · cases hr
  obtain ⟨W0, hW0⟩ : ∃ x, x = (w.alloc (.cells #[.int .u8 c0, .slice a n c, .slice (some ⟨g, off, none⟩) m d] 54)).alloc (.cells #[.int .u8 0, .string { data := #[] }, .string { data := #[] }, .string { data := #[] }, .slice none 0 0] 38) := ⟨_, rfl⟩
  have hb0 : Below w.heap.size w W0 := by rw [hW0]; exact ((Below.refl _ _).alloc (Nat.le_refl _) _).alloc (by simp) _
  have HE := Lib.hid hW0
  have HB := Lib.hid hb0
  have cx := hc 0 x rfl
  rw [Nat.add_zero] at cx
  have hm : 1 ≤ m := by simp at hl; omega
  have HL := Lib.hid hl
  have hm1 : (1 : Int) ≤ m := by omega
  have hmd : (m : Int) ≤ d := by omega
  have HBW := Lib.hid (show ∀ x0 x1 x2 x3 x4, Below w.heap.size w ((w.alloc (.cells #[.int .u8 c0, .slice a n c, .slice (some ⟨g, off, none⟩) m d] 54)).alloc (.cells #[x0, x1, x2, x3, x4] 38)) from fun x0 x1 x2 x3 x4 => ((Below.refl _ _).alloc (Nat.le_refl _) _).alloc (by simp) _)
  have HT := Lib.hid hT
  have HKF := Lib.hid (show ∀ W, Below W0.heap.size W0 W → (W.cell? ⟨w.heap.size + 1, 0, none⟩ = some (.int .u8 0) ∧ W.cell? ⟨w.heap.size + 1, 1, none⟩ = some (.string { data := #[] }) ∧ W.cell? ⟨w.heap.size + 1, 2, none⟩ = some (.string { data := #[] }) ∧ W.cell? ⟨w.heap.size + 1, 3, none⟩ = some (.string { data := #[] }) ∧ W.cell? ⟨w.heap.size + 1, 4, none⟩ = some (.slice none 0 0)) ∧ (W.frozen? ⟨w.heap.size + 1, 0, none⟩ = false ∧ W.frozen? ⟨w.heap.size + 1, 1, none⟩ = false ∧ W.frozen? ⟨w.heap.size + 1, 2, none⟩ = false ∧ W.frozen? ⟨w.heap.size + 1, 3, none⟩ = false ∧ W.frozen? ⟨w.heap.size + 1, 4, none⟩ = false) from by
    intro W hW
    have hz : w.heap.size + 1 < W0.heap.size := by rw [hW0]; simp
    have k : ∀ i, W.cell? ⟨w.heap.size + 1, i, none⟩ = W0.cell? ⟨w.heap.size + 1, i, none⟩ := fun i => hW.cell (p := ⟨w.heap.size + 1, i, none⟩) hz
    have f : ∀ i, W.frozen? ⟨w.heap.size + 1, i, none⟩ = W0.frozen? ⟨w.heap.size + 1, i, none⟩ := fun i => hW.frozen (p := ⟨w.heap.size + 1, i, none⟩) hz
    simp only [k, f]
    rw [hW0]
    simp [go_sem])
  have HSA := Lib.hid (start_any n c a T W0 (hT.mono hb0) hn)
  clear hb0 hW0 hT hc hl
  go_enter Tryz.func26, Tryz.ntmps26
  by_cases h1 : x = 196608
  · subst h1
    obtain ⟨E, hE⟩ : ∃ E, E = startE T := ⟨_, rfl⟩
    have HSN := Lib.hid (show E.n = [] from by rw [hE]; unfold startE; split <;> rfl)
    rw [show beginE T (196608 :: r) = E from hE ▸ if_pos rfl]
    rw [← hE] at HSA
    clear hE
    go_wp2_with fail
    rw [← HE.out]
    refine HSA.out.mono ?_; rintro e w1 ⟨rfl, hb⟩
    have HB1 := Lib.hid (HB.out.step hb HB.out.size)
    obtain ⟨⟨k0, k1, k2, k3, k4⟩, f0, f1, f2, f3, f4⟩ := HKF.out _ hb
    clear hb HSA
    go_wp2_with fail
    simp [bodyPost, results, Tryz.results26, go_sem, k0, k1, k2, k3, k4]
    rw [HSN.out]
    exact ⟨evNums_nil _ _, ((((HB1.out.setCell (Nat.le_succ _) _).setCell (Nat.le_succ _) _).setCell (Nat.le_succ _) _).setCell (Nat.le_succ _) _).setCell (Nat.le_succ _) _⟩
  · by_cases h2 : x = 80877102
    · subst h2
      obtain ⟨p, q, rfl⟩ := hx rfl
      obtain rfl : m = 3 := HL.out.symm
      have hd1 : ¬ d = 1 := by omega
      have hd2 : d - 1 + 1 = d := by omega
      rw [show beginE T [80877102, p, q] = ⟨99, [], [], [], [p, q]⟩ from rfl]
      clear h1
      go_wp2_with fail
      simp [bodyPost, results, Tryz.results26, go_sem]
      exact ⟨⟨_, _, _, rfl, (nums_tail HN.out).mono (((Below.refl _ _).alloc (Nat.le_refl _) _).alloc (by simp) _), fun _ g' off' e => by cases e; rfl⟩, HBW.out _ _ _ _ _⟩
    · have HS := Lib.hid (show beginE T (x :: r) = wrongEv c_done from by show (if x = 196608 then startE T else if x = 80877102 then _ else wrongEv c_done) = _; rw [if_neg h1, if_neg h2])
      have e1 : (x == 196608) = false := by simpa using h1
      have e2 : (x == 80877102) = false := by simpa using h2
      rw [HS.out]
      clear h1 h2
      go_wp2_with fail
      simp [bodyPost, results, Tryz.results26, go_sem, wrongEv, c_done]
      exact ⟨evNums_nil _ _, HBW.out _ _ _ _ _⟩

/-- The cells of a front. -/
def FCell (w : World) (p : Nat) (i : Value) (b : Bool) : Prop := w.heap[p]? = some (.cells #[i, .bool b] 47 (0, 0))
theorem FCell.cell {w : World} {p : Nat} {i : Value} {b : Bool} (h : FCell w p i b) : w.cell? ⟨p, 0, none⟩ = some i ∧ w.cell? ⟨p, 1, none⟩ = some (.bool b) := by
  refine ⟨?_, ?_⟩ <;> rw [cell_of_row w p _ _ _ (0, 0) h] <;> rfl
theorem FCell.frozen {w : World} {p : Nat} {i : Value} {b : Bool} (h : FCell w p i b) (j : Nat) : w.frozen? ⟨p, j, none⟩ = false := by
  unfold FCell at h
  simp [World.frozen?, h]
theorem FCell.lt {w : World} {p : Nat} {i : Value} {b : Bool} (h : FCell w p i b) : p < w.heap.size := (Array.getElem?_eq_some_iff.1 h).1
theorem FCell.put {w : World} {p : Nat} {i : Value} {b : Bool} (h : FCell w p i b) : FCell (w.setCell ⟨p, 1, none⟩ (.bool true)) p i true := by
  unfold FCell at h ⊢
  rw [setCell_eq_setRow w p 1 _ _ (0, 0) _ h]
  exact setRow_heap w p _ _ _ _ h
theorem FCell.end {w : World} {p : Nat} {i : Value} {b : Bool} (h : FCell w p i b) (x : Value) : FCell (w.setCell ⟨p, 0, none⟩ x) p x b := by
  unfold FCell at h ⊢
  rw [setCell_eq_setRow w p 0 _ _ (0, 0) _ h]
  exact setRow_heap w p _ _ _ _ h
theorem FCell.same {w w' : World} {p : Nat} {i : Value} {b : Bool} (h : FCell w p i b) (hb : w'.heap[p]? = w.heap[p]?) : FCell w' p i b := hb.trans h
theorem Turned.then {w w1 w' : World} {p : Nat} {row : Option Nat} (h : Turned w w1 p row) (hb : Below w.heap.size w1 w') : Turned w w' p row :=
  ⟨hb.os.trans h.os, hb.tape.trans h.tape, hb.output.trans h.output, Nat.le_trans h.size hb.size, fun k hk hp hr => (hb.block k hk).trans (h.block k hk hp hr)⟩
/-- A front's begun flag is set. -/
theorem begun_world {w : World} {p : Nat} {i : Value} {b : Bool} (h : FCell w p i b) : FCell (w.setCell ⟨p, 1, none⟩ (.bool true)) p i true ∧ Turned w (w.setCell ⟨p, 1, none⟩ (.bool true)) p none :=
  ⟨h.put, ⟨rfl, rfl, rfl, by rw [World.size_setCell]; exact Nat.le_refl _, fun k hk hp _ => Below.heap_setCell _ _ _ _ hp⟩⟩
/-- What event leaves. -/
def Evented (w : World) (p : Nat) (i : Value) (Q : Nat → Prop) (E : Ev) (e : Ending) (w' : World) : Prop := ∃ sl, e = .returned (evV E sl) ∧ EvNums w' Q E.n sl ∧ FCell w' p i true ∧ Turned w w' p none
theorem evented_end {w W w' : World} {p : Nat} {i : Value} (_ : W = w.setCell ⟨p, 1, none⟩ (.bool true)) (h : FCell W p i true ∧ Turned w W p none) (hp : p < w.heap.size) (hb : Below w.heap.size W w') : FCell w' p i true ∧ Turned w w' p none :=
  ⟨h.1.same (hb.block p hp), h.2.then hb⟩
set_option maxRecDepth 100000 in
set_option maxHeartbeats 8000000 in
theorem event_wrong (p : Nat) (i : Value) (b : Bool) (c0 : Int) (tv nv : Value) (er : Int) (w : World) (h : FCell w p i b) (he : er ≠ 0) (Q : Nat → Prop) :
    Calls Tryz.prog 17 #[.pointer (some ⟨p, 0, none⟩), .agg #[.int .u8 c0, tv, nv], .int .i64 er] w (Evented w p i Q (wrongEv c_bytes)) := by
  obtain ⟨f0, f1⟩ := h.cell
  have z1 := h.frozen 1
  have hp := h.lt
  have hne : (er != 0) = true := by simpa using he
  have HW := Lib.hid (begun_world h)
  clear h he
  go_enter Tryz.func17, Tryz.ntmps17
  go_wp2_with fail
  simp [bodyPost, results, Tryz.results17, go_sem, Evented, wrongEv, c_bytes]
  exact ⟨evNums_nil _ _, evented_end rfl HW.out hp (((Below.refl _ _).alloc (by rw [World.size_setCell]; exact Nat.le_refl _) _).alloc (by simp [World.size_setCell]) _)⟩
end Go.Proofs.YtmofnkinclckoaaGreatDoor

namespace Go.Proofs.YtmofnkinclckoaaGreatDoor
open Go.RowKit Go.Lib Go.WideShapes

theorem texts_flag {w : World} {p : Nat} {b : Bool} {v : Value} {T : List Bs} (h : TextsIn w v T) (hp : w.cell? ⟨p, 1, none⟩ = some (.bool b)) (x : Value) : TextsIn (w.setCell ⟨p, 1, none⟩ x) v T := by
  obtain ⟨a', n', c', hv, hl, h1, h2, hr⟩ := h
  refine ⟨a', n', c', hv, hl, h1, h2, hr.imp id ?_⟩
  rintro ⟨g, off, hga, hlt, hc⟩
  refine ⟨g, off, hga, by rw [World.size_setCell]; exact hlt, fun j t ht => ?_⟩
  rw [World.cell?_setCell_other _ _ _ _ (show (⟨p, 1, none⟩ : Addr) ≠ ⟨g, off + j, none⟩ from fun e => by
    have h9 := hc j t ht
    rw [← e, hp] at h9
    cases h9)]
  exact hc j t ht
theorem nums_flag {w : World} {p : Nat} {b : Bool} {v : Value} {T : List Int} (h : NumsIn w v T) (hp : w.cell? ⟨p, 1, none⟩ = some (.bool b)) (x : Value) : NumsIn (w.setCell ⟨p, 1, none⟩ x) v T := by
  obtain ⟨a', n', c', hv, hl, h1, h2, hr⟩ := h
  refine ⟨a', n', c', hv, hl, h1, h2, hr.imp id ?_⟩
  rintro ⟨g, off, hga, hlt, hc⟩
  refine ⟨g, off, hga, by rw [World.size_setCell]; exact hlt, fun j t ht => ?_⟩
  rw [World.cell?_setCell_other _ _ _ _ (show (⟨p, 1, none⟩ : Addr) ≠ ⟨g, off + j, none⟩ from fun e => by
    have h9 := hc j t ht
    rw [← e, hp] at h9
    cases h9)]
  exact hc j t ht
theorem nums_event {w : World} {q : Nat} {v : Value} {T : List Int} (h : NumsIn w v T) (k0 : w.cell? ⟨q, 0, none⟩ = some (.int .u8 0)) (k1 : w.cell? ⟨q, 1, none⟩ = some (.string { data := #[] })) (k2 : w.cell? ⟨q, 2, none⟩ = some (.string { data := #[] })) (k3 : w.cell? ⟨q, 3, none⟩ = some (.string { data := #[] })) (k4 : w.cell? ⟨q, 4, none⟩ = some (.slice none 0 0)) (x0 x1 x2 x3 x4 : Value) : NumsIn (((((w.setCell ⟨q, 0, none⟩ x0).setCell ⟨q, 1, none⟩ x1).setCell ⟨q, 2, none⟩ x2).setCell ⟨q, 3, none⟩ x3).setCell ⟨q, 4, none⟩ x4) v T := by
  obtain ⟨a', n', c', hv, hl, h1, h2, hr⟩ := h
  refine ⟨a', n', c', hv, hl, h1, h2, hr.imp id ?_⟩
  rintro ⟨g, off, hga, hlt, hc⟩
  refine ⟨g, off, hga, by simp only [World.size_setCell]; exact hlt, fun j t ht => ?_⟩
  have h9 := hc j t ht
  have n0 : (⟨q, 0, none⟩ : Addr) ≠ ⟨g, off + j, none⟩ := fun e => by rw [← e, k0] at h9; cases h9
  have n1 : (⟨q, 1, none⟩ : Addr) ≠ ⟨g, off + j, none⟩ := fun e => by rw [← e, k1] at h9; cases h9
  have n2 : (⟨q, 2, none⟩ : Addr) ≠ ⟨g, off + j, none⟩ := fun e => by rw [← e, k2] at h9; cases h9
  have n3 : (⟨q, 3, none⟩ : Addr) ≠ ⟨g, off + j, none⟩ := fun e => by rw [← e, k3] at h9; cases h9
  have n4 : (⟨q, 4, none⟩ : Addr) ≠ ⟨g, off + j, none⟩ := fun e => by rw [← e, k4] at h9; cases h9
  rw [World.cell?_setCell_other _ _ _ _ n4, World.cell?_setCell_other _ _ _ _ n3, World.cell?_setCell_other _ _ _ _ n2, World.cell?_setCell_other _ _ _ _ n1, World.cell?_setCell_other _ _ _ _ n0]
  exact h9
set_option maxRecDepth 100000 in
set_option maxHeartbeats 16000000 in
theorem event_first (p : Nat) (i : Value) (c : UInt8) (n cc m d : Nat) (a bb : Option Addr) (T : List Bs) (N : List Int) (w : World) (h : FCell w p i false) (hT : TextsIn w (.slice a n cc) T) (hN : NumsIn w (.slice bb m d) N) (hn : n ≤ 800000) (h0 : ∃ x r, N = x :: r ∧ (x = 80877102 → ∃ p q, r = [p, q])) :
    Calls Tryz.prog 17 #[.pointer (some ⟨p, 0, none⟩), .agg #[.int .u8 (c.toNat : Nat), .slice a n cc, .slice bb m d], .int .i64 0] w (Evented w p i (fun g => ∃ off, bb = some ⟨g, off, none⟩) (beginE T N)) := by
  obtain ⟨f0, f1⟩ := h.cell
  have z1 := h.frozen 1
  have hp := h.lt
  have HW := Lib.hid (begun_world h)
  obtain ⟨c0, hc0⟩ : ∃ x : Int, x = (c.toNat : Nat) := ⟨_, rfl⟩
  rw [← hc0]
  obtain ⟨W1, hW1⟩ : ∃ x, x = w.setCell ⟨p, 1, none⟩ (.bool true) := ⟨_, rfl⟩
  obtain ⟨W0, hW0⟩ : ∃ x, x = (W1.alloc (.cells #[.int .u8 c0, .slice a n cc, .slice bb m d] 54)).alloc (.cells #[.int .u8 0, .string { data := #[] }, .string { data := #[] }, .string { data := #[] }, .slice none 0 0] 38) := ⟨_, rfl⟩
  have hb0 : Below W1.heap.size W1 W0 := by rw [hW0]; exact ((Below.refl _ _).alloc (Nat.le_refl _) _).alloc (by simp) _
  have hz1 : W1.heap.size = w.heap.size := by rw [hW1, World.size_setCell]
  have hT1 : TextsIn W1 (.slice a n cc) T := by rw [hW1]; exact texts_flag hT f1 _
  have hN1 : NumsIn W1 (.slice bb m d) N := by rw [hW1]; exact nums_flag hN f1 _
  have HBE := Lib.hid (beginning_any c0 n cc m d a bb T N W0 (hT1.mono hb0) (hN1.mono hb0) hn h0)
  have HKF := Lib.hid (show ∀ W, Below W0.heap.size W0 W → (W.cell? ⟨w.heap.size + 1, 0, none⟩ = some (.int .u8 0) ∧ W.cell? ⟨w.heap.size + 1, 1, none⟩ = some (.string { data := #[] }) ∧ W.cell? ⟨w.heap.size + 1, 2, none⟩ = some (.string { data := #[] }) ∧ W.cell? ⟨w.heap.size + 1, 3, none⟩ = some (.string { data := #[] }) ∧ W.cell? ⟨w.heap.size + 1, 4, none⟩ = some (.slice none 0 0)) ∧ (W.frozen? ⟨w.heap.size + 1, 0, none⟩ = false ∧ W.frozen? ⟨w.heap.size + 1, 1, none⟩ = false ∧ W.frozen? ⟨w.heap.size + 1, 2, none⟩ = false ∧ W.frozen? ⟨w.heap.size + 1, 3, none⟩ = false ∧ W.frozen? ⟨w.heap.size + 1, 4, none⟩ = false) from by
    intro W hW
    have hz : w.heap.size + 1 < W0.heap.size := by rw [hW0]; simp [hz1]
    have k : ∀ i, W.cell? ⟨w.heap.size + 1, i, none⟩ = W0.cell? ⟨w.heap.size + 1, i, none⟩ := fun i => hW.cell (p := ⟨w.heap.size + 1, i, none⟩) hz
    have f : ∀ i, W.frozen? ⟨w.heap.size + 1, i, none⟩ = W0.frozen? ⟨w.heap.size + 1, i, none⟩ := fun i => hW.frozen (p := ⟨w.heap.size + 1, i, none⟩) hz
    simp only [k, f]
    rw [hW0, ← hz1]
    simp [go_sem])
  have HB0 := Lib.hid (show Below w.heap.size W1 W0 from by rw [← hz1]; exact hb0)
  have HZ0 := Lib.hid (show w.heap.size ≤ W0.heap.size from by rw [← hz1]; exact hb0.size)
  rw [← hW1] at HW
  obtain ⟨E, hE⟩ : ∃ E, E = beginE T N := ⟨_, rfl⟩
  rw [← hE] at HBE ⊢
  clear hE
  have HE := Lib.hid hW0; have HE1 := Lib.hid hW1; have HZ1 := Lib.hid hz1
  clear hb0 hz1 hT1 hN1 hW0 hW1 h hT hN h0 hc0
  go_enter Tryz.func17, Tryz.ntmps17
  go_wp2_with fail
  rw [← HE1.out, ← HE.out]
  refine HBE.out.mono ?_; rintro e w1 ⟨sl, rfl, hE, hb⟩
  have HB1 := Lib.hid (HB0.out.step hb HZ0.out)
  obtain ⟨⟨k0, k1, k2, k3, k4⟩, f0, f1, f2, f3, f4⟩ := HKF.out _ hb
  obtain ⟨b', m', d', rfl, hN, hQ⟩ := hE
  have HN := Lib.hid (nums_event hN k0 k1 k2 k3 k4)
  have HQ := Lib.hid hQ
  clear hb hN hQ HBE
  go_wp2_with fail
  simp [bodyPost, results, Tryz.results17, go_sem, Evented, k0, k1, k2, k3, k4]
  exact ⟨⟨b', m', d', rfl, HN.out _ _ _ _ _, HQ.out⟩, evented_end HE1.out HW.out hp (((((HB1.out.setCell (Nat.le_succ _) _).setCell (Nat.le_succ _) _).setCell (Nat.le_succ _) _).setCell (Nat.le_succ _) _).setCell (Nat.le_succ _) _)⟩

set_option maxRecDepth 100000 in
set_option maxHeartbeats 16000000 in
theorem event_later (p : Nat) (i : Value) (c : UInt8) (n cc m d : Nat) (a bb : Option Addr) (T : List Bs) (w : World) (h : FCell w p i true) (hT : TextsIn w (.slice a n cc) T) (ht : c = 81 ∨ c = 112 → ∃ t, T = [t]) (Q : Nat → Prop) :
    Calls Tryz.prog 17 #[.pointer (some ⟨p, 0, none⟩), .agg #[.int .u8 (c.toNat : Nat), .slice a n cc, .slice bb m d], .int .i64 0] w (Evented w p i Q (laterE c T)) := by
  obtain ⟨f0, f1⟩ := h.cell
  have z1 := h.frozen 1
  have hp := h.lt
  have HW := Lib.hid (begun_world h)
  have HT := Lib.hid hT
  clear h hT
  go_enter Tryz.func17, Tryz.ntmps17
  by_cases h81 : c = 81
  · subst h81
    rw [show (((81 : UInt8).toNat : Nat) : Int) = 81 from rfl]
    obtain ⟨t, rfl⟩ := ht (.inl rfl)
    obtain ⟨a', n', c', hva, hl, hnc, hc9, hr⟩ := HT.out
    injection hva with e1 e2 e3
    subst e1 e2 e3
    rcases hr with hr | ⟨g, off, rfl, hg, hc⟩
    · cases hr
    have ct := hc 0 t rfl
    rw [Nat.add_zero] at ct
    obtain rfl : n = 1 := hl.symm
    have hcc : (1 : Int) ≤ cc := by omega
    rw [show laterE 81 [t] = ⟨113, [], [], t, []⟩ from rfl]
    have ct1 : (w.setCell ⟨p, 1, none⟩ (.bool true)).cell? ⟨g, off, none⟩ = some (.string ⟨t.toArray⟩) := by
      rw [World.cell?_setCell_other _ _ _ _ (show (⟨p, 1, none⟩ : Addr) ≠ ⟨g, off, none⟩ from fun e => by rw [← e, f1] at ct; cases ct)]
      exact ct
    clear hl hc hc9 hnc HT ct
    go_wp2_with fail
    simp [bodyPost, results, Tryz.results17, go_sem, Evented]
    exact ⟨evNums_nil _ _, evented_end rfl HW.out hp (((Below.refl _ _).alloc (by rw [World.size_setCell]; exact Nat.le_refl _) _).alloc (by simp [World.size_setCell]) _)⟩
  by_cases h112 : c = 112
  · subst h112
    rw [show (((112 : UInt8).toNat : Nat) : Int) = 112 from rfl]
    obtain ⟨t, rfl⟩ := ht (.inr rfl)
    obtain ⟨a', n', c', hva, hl, hnc, hc9, hr⟩ := HT.out
    injection hva with e1 e2 e3
    subst e1 e2 e3
    rcases hr with hr | ⟨g, off, rfl, hg, hc⟩
    · cases hr
    have ct := hc 0 t rfl
    rw [Nat.add_zero] at ct
    obtain rfl : n = 1 := hl.symm
    have hcc : (1 : Int) ≤ cc := by omega
    rw [show laterE 112 [t] = ⟨112, [], [], t, []⟩ from rfl]
    have ct1 : (w.setCell ⟨p, 1, none⟩ (.bool true)).cell? ⟨g, off, none⟩ = some (.string ⟨t.toArray⟩) := by
      rw [World.cell?_setCell_other _ _ _ _ (show (⟨p, 1, none⟩ : Addr) ≠ ⟨g, off, none⟩ from fun e => by rw [← e, f1] at ct; cases ct)]
      exact ct
    clear hl hc hc9 hnc HT ct
    go_wp2_with fail
    simp [bodyPost, results, Tryz.results17, go_sem, Evented]
    exact ⟨evNums_nil _ _, evented_end rfl HW.out hp (((Below.refl _ _).alloc (by rw [World.size_setCell]; exact Nat.le_refl _) _).alloc (by simp [World.size_setCell]) _)⟩
  by_cases h83 : c = 83
  · subst h83
    rw [show (((83 : UInt8).toNat : Nat) : Int) = 83 from rfl]
    rw [show laterE 83 T = ⟨121, [], [], [], []⟩ from rfl]
    clear HT ht
    go_wp2_with fail
    simp [bodyPost, results, Tryz.results17, go_sem, Evented]
    exact ⟨evNums_nil _ _, evented_end rfl HW.out hp (((Below.refl _ _).alloc (by rw [World.size_setCell]; exact Nat.le_refl _) _).alloc (by simp [World.size_setCell]) _)⟩
  by_cases h88 : c = 88
  · subst h88
    rw [show (((88 : UInt8).toNat : Nat) : Int) = 88 from rfl]
    rw [show laterE 88 T = ⟨120, [], [], [], []⟩ from rfl]
    clear HT ht
    go_wp2_with fail
    simp [bodyPost, results, Tryz.results17, go_sem, Evented]
    exact ⟨evNums_nil _ _, evented_end rfl HW.out hp (((Below.refl _ _).alloc (by rw [World.size_setCell]; exact Nat.le_refl _) _).alloc (by simp [World.size_setCell]) _)⟩
  obtain ⟨c0, hc0⟩ : ∃ x : Int, x = (c.toNat : Nat) := ⟨_, rfl⟩
  rw [← hc0]
  have d1 : (c0 == 81) = false := by rw [hc0]; simpa using fun e : (c.toNat : Int) = 81 => h81 (UInt8.toNat_inj.1 (by show c.toNat = 81; omega))
  have d2 : (c0 == 112) = false := by rw [hc0]; simpa using fun e : (c.toNat : Int) = 112 => h112 (UInt8.toNat_inj.1 (by show c.toNat = 112; omega))
  have d3 : (c0 == 83) = false := by rw [hc0]; simpa using fun e : (c.toNat : Int) = 83 => h83 (UInt8.toNat_inj.1 (by show c.toNat = 83; omega))
  have d4 : (c0 == 88) = false := by rw [hc0]; simpa using fun e : (c.toNat : Int) = 88 => h88 (UInt8.toNat_inj.1 (by show c.toNat = 88; omega))
  rw [show laterE c T = ⟨117, [], [], [], []⟩ from by unfold laterE; rw [if_neg h81, if_neg h112, if_neg h83, if_neg h88]]
  clear HT ht h81 h112 h83 h88 hc0
  go_wp2_with fail
  simp [bodyPost, results, Tryz.results17, go_sem, Evented]
  exact ⟨evNums_nil _ _, evented_end rfl HW.out hp (((Below.refl _ _).alloc (by rw [World.size_setCell]; exact Nat.le_refl _) _).alloc (by simp [World.size_setCell]) _)⟩
end Go.Proofs.YtmofnkinclckoaaGreatDoor

namespace Go.Proofs.YtmofnkinclckoaaGreatDoor
open Go.RowKit Go.Lib

set_option maxHeartbeats 2000000 in
theorem next_more (p : Nat) (v : Value) (s : ByteArray) (bare : Bool) (w : World) (h : RIs w p v s bare 0) (hE : frameE s bare = 4) :
    Calls Tryz.prog 15 #[.pointer (some ⟨p, 0, none⟩)] w fun e w' => e = .returned (.tuple #[.agg #[.int .u8 0, .string { data := #[] }], .int .i64 4]) ∧ Below w.heap.size w w' := by
  obtain ⟨a, c, rfl⟩ := h.own.form
  obtain ⟨c0, c1, c2⟩ := h.cell
  have hp := h.lt
  have H := Lib.hid h
  have HR := Lib.hid h.own.reads
  have hF := fun W (hv : Reads W (.slice a s.size c) s) => firstB_err s (.slice a s.size c) bare W hv (by rw [hE]; decide)
  rw [hE] at hF
  have HF := Lib.hid hF
  clear hE hF
  clear h
  go_enter Tryz.func15, Tryz.ntmps15
  go_upto_region 3 with fail
  go_cut [4, 5, 6] (fun s4 s5 s6 wx => ∃ q : Nat, s4 = .pointer (some ⟨q, 0, none⟩) ∧ s5 = .int .i64 0 ∧ s6 = .int .i64 4 ∧ Behind w 0 { data := #[] } q wx)
  case first =>
    go_region_with (go_at_call 23; refine (HF.out _ (by first | exact HR.out.grown ((Below.refl _ _).alloc (Nat.le_refl _) _).drew | exact HR.out.grown (((Below.refl _ _).alloc (Nat.le_refl _) _).alloc (by simp) _).drew)).mono ?_; rintro e w1 ⟨rfl, hb1⟩; first | (have hX := next_before hp c0 c1 c2 hb1; obtain ⟨hB, d0, d1, d2, x2, y2, z2, z3, x4, y4, z4⟩ := hX) | (have hX := next_behind hp c0 c1 c2 hb1; obtain ⟨hB, d0, d1, d2, x2, y2, z2, z3⟩ := hX); clear hb1)
    all_goals go_wp2_with fail
    all_goals go_meet
    all_goals first | exact ⟨_, rfl, rfl, rfl, behind_new hB x2 y2 z2⟩ | exact ⟨_, rfl, rfl, rfl, behind_old hB x2 y2 z4 x4⟩
  case rest =>
    obtain ⟨q, rfl, rfl, rfl, hx, hy, hyf, hq1, hq2, hB⟩ := hcut
    clear HF HR c0 c1 c2
    go_wp2
    refine bodyPost_ret (v := .tuple #[.agg #[.int .u8 0, .string { data := #[] }], .int .i64 4]) (by simp [results, Tryz.results15, go_sem, hy]) rfl ⟨rfl, ?_⟩
    exact (hB.setCell (Nat.le_refl _) _).setCell (Nat.le_refl _) _
end Go.Proofs.YtmofnkinclckoaaGreatDoor

namespace Go.Proofs.YtmofnkinclckoaaGreatDoor
open Go.RowKit Go.Lib

set_option maxHeartbeats 2000000 in
theorem next_wrong (p : Nat) (v : Value) (s : ByteArray) (bare : Bool) (E : Int) (w : World) (h : RIs w p v s bare 0) (hE : frameE s bare = E) (h0 : ¬ E = 0) (h4 : ¬ E = 4) :
    Calls Tryz.prog 15 #[.pointer (some ⟨p, 0, none⟩)] w fun e w' => e = .returned (.tuple #[.agg #[.int .u8 0, .string { data := #[] }], .int .i64 E]) ∧ Nexted p v { data := #[] } bare E w w' := by
  obtain ⟨a, c, rfl⟩ := h.own.form
  obtain ⟨c0, c1, c2⟩ := h.cell
  have hp := h.lt
  have H := Lib.hid h
  have HR := Lib.hid h.own.reads
  have hF := fun W (hv : Reads W (.slice a s.size c) s) => firstB_err s (.slice a s.size c) bare W hv (by rw [hE]; exact h0)
  rw [hE] at hF
  have HF := Lib.hid hF
  have b0 : (E == 0) = false := by simpa using h0
  have b4 : (E == 4) = false := by simpa using h4
  clear hE hF
  clear h
  go_enter Tryz.func15, Tryz.ntmps15
  go_upto_region 3 with fail
  go_cut [4, 5, 6] (fun s4 s5 s6 wx => ∃ q : Nat, s4 = .pointer (some ⟨q, 0, none⟩) ∧ s5 = .int .i64 0 ∧ s6 = .int .i64 E ∧ Behind w 0 { data := #[] } q wx)
  case first =>
    go_region_with (go_at_call 23; refine (HF.out _ (by first | exact HR.out.grown ((Below.refl _ _).alloc (Nat.le_refl _) _).drew | exact HR.out.grown (((Below.refl _ _).alloc (Nat.le_refl _) _).alloc (by simp) _).drew)).mono ?_; rintro e w1 ⟨rfl, hb1⟩; first | (have hX := next_before hp c0 c1 c2 hb1; obtain ⟨hB, d0, d1, d2, x2, y2, z2, z3, x4, y4, z4⟩ := hX) | (have hX := next_behind hp c0 c1 c2 hb1; obtain ⟨hB, d0, d1, d2, x2, y2, z2, z3⟩ := hX); clear hb1)
    all_goals go_wp2_with fail
    all_goals go_meet
    all_goals first | exact ⟨_, rfl, rfl, rfl, behind_new hB x2 y2 z2⟩ | exact ⟨_, rfl, rfl, rfl, behind_old hB x2 y2 z4 x4⟩
  case rest =>
    obtain ⟨q, rfl, rfl, rfl, hx, hy, hyf, hq1, hq2, hB⟩ := hcut
    clear HF HR c0 c1 c2
    have hR := Lib.hid (H.out.grown hB)
    have d0 := hR.out.cell.1
    have d2 := hR.out.cell.2.2
    have f0 := hR.out.frozen 0
    have f2 := hR.out.frozen 2
    have hpx : p < wc.heap.size := hR.out.lt
    have hfin := Lib.hid (wrong_end (x := .int .u8 0) (y := .string { data := #[] }) (E := E) H.out hB)
    clear H hR
    go_wp2
    refine bodyPost_ret (v := .tuple #[.agg #[.int .u8 0, .string { data := #[] }], .int .i64 E]) (by simp [results, Tryz.results15, go_sem, hy]) rfl ⟨rfl, ?_⟩
    exact hfin.out
end Go.Proofs.YtmofnkinclckoaaGreatDoor

namespace Go.Proofs.YtmofnkinclckoaaGreatDoor
open Go.RowKit Go.Lib

set_option maxHeartbeats 2000000 in
theorem next_good (p : Nat) (v : Value) (s : ByteArray) (bare : Bool) (w : World) (h : RIs w p v s bare 0) (hE : frameE s bare = 0) :
    Calls Tryz.prog 15 #[.pointer (some ⟨p, 0, none⟩)] w fun e w' => e = .returned (.tuple #[.agg #[.int .u8 (headT s bare : Nat), .string (frameB s bare)], .int .i64 0]) ∧ Nexted p v (s.extract (frameN s bare) s.size) false 0 w w' := by
  obtain ⟨a, c, rfl⟩ := h.own.form
  obtain ⟨c0, c1, c2⟩ := h.cell
  have hp := h.lt
  have H := Lib.hid h
  have HR := Lib.hid h.own.reads
  have HF := Lib.hid (fun W (hv : Reads W (.slice a s.size c) s) => firstB_good s (.slice a s.size c) bare W hv hE)
  have hn0 : 0 < frameN s bare := by have := (good_frame hE); have h1 := this.2.1; unfold frameN; omega
  have hn1 := (good_frame hE).2.2.2.1
  clear hE
  clear h
  go_enter Tryz.func15, Tryz.ntmps15
  go_upto_region 3 with fail
  go_cut [4, 5, 6] (fun s4 s5 s6 wx => ∃ q : Nat, s4 = .pointer (some ⟨q, 0, none⟩) ∧ s5 = .int .i64 (frameN s bare : Nat) ∧ s6 = .int .i64 0 ∧ Behind w (headT s bare : Nat) (frameB s bare) q wx)
  case first =>
    go_region_with (go_at_call 23; refine (HF.out _ (by first | exact HR.out.grown ((Below.refl _ _).alloc (Nat.le_refl _) _).drew | exact HR.out.grown (((Below.refl _ _).alloc (Nat.le_refl _) _).alloc (by simp) _).drew)).mono ?_; rintro e w1 ⟨rfl, hb1⟩; first | (have hX := next_before hp c0 c1 c2 hb1; obtain ⟨hB, d0, d1, d2, x2, y2, z2, z3, x4, y4, z4⟩ := hX) | (have hX := next_behind hp c0 c1 c2 hb1; obtain ⟨hB, d0, d1, d2, x2, y2, z2, z3⟩ := hX); clear hb1)
    all_goals go_wp2_with fail
    all_goals go_meet
    all_goals first | exact ⟨_, rfl, rfl, rfl, behind_new hB x2 y2 z2⟩ | exact ⟨_, rfl, rfl, rfl, behind_old hB x2 y2 z4 x4⟩
  case rest =>
    obtain ⟨q, rfl, rfl, rfl, hx, hy, hyf, hq1, hq2, hB⟩ := hcut
    clear HF HR c0 c1 c2
    have hR := Lib.hid (H.out.grown hB)
    have d1 := hR.out.cell.2.1
    have f1 := hR.out.frozen 1
    have hpx : p < wc.heap.size := hR.out.lt
    go_wp2_with fail
    refine (drop_any p (.slice a s.size c) s (frameN s bare) false 0 _ (hR.out.setBare false) hn0 hn1).mono ?_; rintro e w2 ⟨rfl, v', hR2, hT2, hs2⟩
    obtain ⟨hx2, hy2, hyf2, hfin⟩ := good_end H.out hB hx hy hyf hq1 hq2 hR2 hT2 hs2
    have hF2 := Lib.hid hfin
    clear H hR hx hy hyf hB hR2 hT2 hs2 hfin d1 f1
    go_wp2
    refine bodyPost_ret (v := .tuple #[.agg #[.int .u8 (headT s bare : Nat), .string (frameB s bare)], .int .i64 0]) (by simp [results, Tryz.results15, go_sem, hy2]) rfl ⟨rfl, ?_⟩
    exact hF2.out
end Go.Proofs.YtmofnkinclckoaaGreatDoor
