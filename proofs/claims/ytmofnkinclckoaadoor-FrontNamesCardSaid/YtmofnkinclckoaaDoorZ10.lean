/- Contracts and mathematics: KEventB, NextA, NextB, NextC, KFeed, DSum. -/
import Derived.Test.YtmofnkinclckoaaDoorZ9
import Derived.Test.YtmofnkinclckoaaDoorRows
import Derived.Deep.DeepAppendWide
import Derived.LoopTactic
import Derived.Test.YtmofnkinclckoaaDoorZ6
namespace Go.Proofs.YtmofnkinclckoaaDoor
open Go.RowKit Go.Lib Go.WideShapes

theorem texts_flag {w : World} {p : Nat} {b : Bool} {v : Value} {T : List Bs} (h : TextsIn w v T) (hp : w.cell? ⟨p, 1, none⟩ = some (.bool b)) (x : Value) : TextsIn (w.setCell ⟨p, 1, none⟩ x) v T := by
  obtain ⟨a', n', c', hv, hl, h1, h2, hr⟩ := h
  refine ⟨a', n', c', hv, hl, h1, h2, hr.imp id ?_⟩
  rintro ⟨g, off, hga, hlt, hc⟩
  refine ⟨g, off, hga, by rw [World.size_setCell]; exact hlt, fun j t ht => ?_⟩
  rw [World.cell?_setCell_other _ _ _ _ (show (⟨p, 1, none⟩ : Addr) ≠ ⟨g, off + j, none⟩ from fun e => by
    have h9 := hc j t ht
    rw [← e, hp] at h9
    cases h9)]
  exact hc j t ht
theorem nums_flag {w : World} {p : Nat} {b : Bool} {v : Value} {T : List Int} (h : NumsIn w v T) (hp : w.cell? ⟨p, 1, none⟩ = some (.bool b)) (x : Value) : NumsIn (w.setCell ⟨p, 1, none⟩ x) v T := by
  obtain ⟨a', n', c', hv, hl, h1, h2, hr⟩ := h
  refine ⟨a', n', c', hv, hl, h1, h2, hr.imp id ?_⟩
  rintro ⟨g, off, hga, hlt, hc⟩
  refine ⟨g, off, hga, by rw [World.size_setCell]; exact hlt, fun j t ht => ?_⟩
  rw [World.cell?_setCell_other _ _ _ _ (show (⟨p, 1, none⟩ : Addr) ≠ ⟨g, off + j, none⟩ from fun e => by
    have h9 := hc j t ht
    rw [← e, hp] at h9
    cases h9)]
  exact hc j t ht
theorem nums_event {w : World} {q : Nat} {v : Value} {T : List Int} (h : NumsIn w v T) (k0 : w.cell? ⟨q, 0, none⟩ = some (.int .u8 0)) (k1 : w.cell? ⟨q, 1, none⟩ = some (.string { data := #[] })) (k2 : w.cell? ⟨q, 2, none⟩ = some (.string { data := #[] })) (k3 : w.cell? ⟨q, 3, none⟩ = some (.string { data := #[] })) (k4 : w.cell? ⟨q, 4, none⟩ = some (.slice none 0 0)) (x0 x1 x2 x3 x4 : Value) : NumsIn (((((w.setCell ⟨q, 0, none⟩ x0).setCell ⟨q, 1, none⟩ x1).setCell ⟨q, 2, none⟩ x2).setCell ⟨q, 3, none⟩ x3).setCell ⟨q, 4, none⟩ x4) v T := by
  obtain ⟨a', n', c', hv, hl, h1, h2, hr⟩ := h
  refine ⟨a', n', c', hv, hl, h1, h2, hr.imp id ?_⟩
  rintro ⟨g, off, hga, hlt, hc⟩
  refine ⟨g, off, hga, by simp only [World.size_setCell]; exact hlt, fun j t ht => ?_⟩
  have h9 := hc j t ht
  have n0 : (⟨q, 0, none⟩ : Addr) ≠ ⟨g, off + j, none⟩ := fun e => by rw [← e, k0] at h9; cases h9
  have n1 : (⟨q, 1, none⟩ : Addr) ≠ ⟨g, off + j, none⟩ := fun e => by rw [← e, k1] at h9; cases h9
  have n2 : (⟨q, 2, none⟩ : Addr) ≠ ⟨g, off + j, none⟩ := fun e => by rw [← e, k2] at h9; cases h9
  have n3 : (⟨q, 3, none⟩ : Addr) ≠ ⟨g, off + j, none⟩ := fun e => by rw [← e, k3] at h9; cases h9
  have n4 : (⟨q, 4, none⟩ : Addr) ≠ ⟨g, off + j, none⟩ := fun e => by rw [← e, k4] at h9; cases h9
  rw [World.cell?_setCell_other _ _ _ _ n4, World.cell?_setCell_other _ _ _ _ n3, World.cell?_setCell_other _ _ _ _ n2, World.cell?_setCell_other _ _ _ _ n1, World.cell?_setCell_other _ _ _ _ n0]
  exact h9
set_option maxRecDepth 100000 in
set_option maxHeartbeats 16000000 in
theorem event_first (p : Nat) (i : Value) (c : UInt8) (n cc m d : Nat) (a bb : Option Addr) (T : List Bs) (N : List Int) (w : World) (h : FCell w p i false) (hT : TextsIn w (.slice a n cc) T) (hN : NumsIn w (.slice bb m d) N) (hn : n ≤ 800000) (h0 : ∃ x r, N = x :: r ∧ (x = 80877102 → ∃ p q, r = [p, q])) :
    Calls Tryd.prog 22 #[.pointer (some ⟨p, 0, none⟩), .agg #[.int .u8 (c.toNat : Nat), .slice a n cc, .slice bb m d], .int .i64 0] w (Evented w p i (fun g => ∃ off, bb = some ⟨g, off, none⟩) (beginE T N)) := by
  obtain ⟨f0, f1⟩ := h.cell
  have z1 := h.frozen 1
  have hp := h.lt
  have HW := Lib.hid (begun_world h)
  obtain ⟨c0, hc0⟩ : ∃ x : Int, x = (c.toNat : Nat) := ⟨_, rfl⟩
  rw [← hc0]
  obtain ⟨W1, hW1⟩ : ∃ x, x = w.setCell ⟨p, 1, none⟩ (.bool true) := ⟨_, rfl⟩
  obtain ⟨W0, hW0⟩ : ∃ x, x = (W1.alloc (.cells #[.int .u8 c0, .slice a n cc, .slice bb m d] 49)).alloc (.cells #[.int .u8 0, .string { data := #[] }, .string { data := #[] }, .string { data := #[] }, .slice none 0 0] 36) := ⟨_, rfl⟩
  have hb0 : Below W1.heap.size W1 W0 := by rw [hW0]; exact ((Below.refl _ _).alloc (Nat.le_refl _) _).alloc (by simp) _
  have hz1 : W1.heap.size = w.heap.size := by rw [hW1, World.size_setCell]
  have hT1 : TextsIn W1 (.slice a n cc) T := by rw [hW1]; exact texts_flag hT f1 _
  have hN1 : NumsIn W1 (.slice bb m d) N := by rw [hW1]; exact nums_flag hN f1 _
  have HBE := Lib.hid (beginning_any c0 n cc m d a bb T N W0 (hT1.mono hb0) (hN1.mono hb0) hn h0)
  have HKF := Lib.hid (show ∀ W, Below W0.heap.size W0 W → (W.cell? ⟨w.heap.size + 1, 0, none⟩ = some (.int .u8 0) ∧ W.cell? ⟨w.heap.size + 1, 1, none⟩ = some (.string { data := #[] }) ∧ W.cell? ⟨w.heap.size + 1, 2, none⟩ = some (.string { data := #[] }) ∧ W.cell? ⟨w.heap.size + 1, 3, none⟩ = some (.string { data := #[] }) ∧ W.cell? ⟨w.heap.size + 1, 4, none⟩ = some (.slice none 0 0)) ∧ (W.frozen? ⟨w.heap.size + 1, 0, none⟩ = false ∧ W.frozen? ⟨w.heap.size + 1, 1, none⟩ = false ∧ W.frozen? ⟨w.heap.size + 1, 2, none⟩ = false ∧ W.frozen? ⟨w.heap.size + 1, 3, none⟩ = false ∧ W.frozen? ⟨w.heap.size + 1, 4, none⟩ = false) from by
    intro W hW
    have hz : w.heap.size + 1 < W0.heap.size := by rw [hW0]; simp [hz1]
    have k : ∀ i, W.cell? ⟨w.heap.size + 1, i, none⟩ = W0.cell? ⟨w.heap.size + 1, i, none⟩ := fun i => hW.cell (p := ⟨w.heap.size + 1, i, none⟩) hz
    have f : ∀ i, W.frozen? ⟨w.heap.size + 1, i, none⟩ = W0.frozen? ⟨w.heap.size + 1, i, none⟩ := fun i => hW.frozen (p := ⟨w.heap.size + 1, i, none⟩) hz
    simp only [k, f]
    rw [hW0, ← hz1]
    simp [go_sem])
  have HB0 := Lib.hid (show Below w.heap.size W1 W0 from by rw [← hz1]; exact hb0)
  have HZ0 := Lib.hid (show w.heap.size ≤ W0.heap.size from by rw [← hz1]; exact hb0.size)
  rw [← hW1] at HW
  obtain ⟨E, hE⟩ : ∃ E, E = beginE T N := ⟨_, rfl⟩
  rw [← hE] at HBE ⊢
  clear hE
  have HE := Lib.hid hW0; have HE1 := Lib.hid hW1; have HZ1 := Lib.hid hz1
  clear hb0 hz1 hT1 hN1 hW0 hW1 h hT hN h0 hc0
  go_enter Tryd.func22, Tryd.ntmps22
  go_wp2_with fail
  rw [← HE1.out, ← HE.out]
  refine HBE.out.mono ?_; rintro e w1 ⟨sl, rfl, hE, hb⟩
  have HB1 := Lib.hid (HB0.out.step hb HZ0.out)
  obtain ⟨⟨k0, k1, k2, k3, k4⟩, f0, f1, f2, f3, f4⟩ := HKF.out _ hb
  obtain ⟨b', m', d', rfl, hN, hQ⟩ := hE
  have HN := Lib.hid (nums_event hN k0 k1 k2 k3 k4)
  have HQ := Lib.hid hQ
  clear hb hN hQ HBE
  go_wp2_with fail
  simp [bodyPost, results, Tryd.results22, go_sem, Evented, k0, k1, k2, k3, k4]
  exact ⟨⟨b', m', d', rfl, HN.out _ _ _ _ _, HQ.out⟩, evented_end HE1.out HW.out hp (((((HB1.out.setCell (Nat.le_succ _) _).setCell (Nat.le_succ _) _).setCell (Nat.le_succ _) _).setCell (Nat.le_succ _) _).setCell (Nat.le_succ _) _)⟩

set_option maxRecDepth 100000 in
set_option maxHeartbeats 16000000 in
theorem event_later (p : Nat) (i : Value) (c : UInt8) (n cc m d : Nat) (a bb : Option Addr) (T : List Bs) (w : World) (h : FCell w p i true) (hT : TextsIn w (.slice a n cc) T) (ht : c = 81 ∨ c = 112 → ∃ t, T = [t]) (Q : Nat → Prop) :
    Calls Tryd.prog 22 #[.pointer (some ⟨p, 0, none⟩), .agg #[.int .u8 (c.toNat : Nat), .slice a n cc, .slice bb m d], .int .i64 0] w (Evented w p i Q (laterE c T)) := by
  obtain ⟨f0, f1⟩ := h.cell
  have z1 := h.frozen 1
  have hp := h.lt
  have HW := Lib.hid (begun_world h)
  have HT := Lib.hid hT
  clear h hT
  go_enter Tryd.func22, Tryd.ntmps22
  by_cases h81 : c = 81
  · subst h81
    rw [show (((81 : UInt8).toNat : Nat) : Int) = 81 from rfl]
    obtain ⟨t, rfl⟩ := ht (.inl rfl)
    obtain ⟨a', n', c', hva, hl, hnc, hc9, hr⟩ := HT.out
    injection hva with e1 e2 e3
    subst e1 e2 e3
    rcases hr with hr | ⟨g, off, rfl, hg, hc⟩
    · cases hr
    have ct := hc 0 t rfl
    rw [Nat.add_zero] at ct
    obtain rfl : n = 1 := hl.symm
    have hcc : (1 : Int) ≤ cc := by omega
    rw [show laterE 81 [t] = ⟨113, [], [], t, []⟩ from rfl]
    have ct1 : (w.setCell ⟨p, 1, none⟩ (.bool true)).cell? ⟨g, off, none⟩ = some (.string ⟨t.toArray⟩) := by
      rw [World.cell?_setCell_other _ _ _ _ (show (⟨p, 1, none⟩ : Addr) ≠ ⟨g, off, none⟩ from fun e => by rw [← e, f1] at ct; cases ct)]
      exact ct
    clear hl hc hc9 hnc HT ct
    go_wp2_with fail
    simp [bodyPost, results, Tryd.results22, go_sem, Evented]
    exact ⟨evNums_nil _ _, evented_end rfl HW.out hp (((Below.refl _ _).alloc (by rw [World.size_setCell]; exact Nat.le_refl _) _).alloc (by simp [World.size_setCell]) _)⟩
  by_cases h112 : c = 112
  · subst h112
    rw [show (((112 : UInt8).toNat : Nat) : Int) = 112 from rfl]
    obtain ⟨t, rfl⟩ := ht (.inr rfl)
    obtain ⟨a', n', c', hva, hl, hnc, hc9, hr⟩ := HT.out
    injection hva with e1 e2 e3
    subst e1 e2 e3
    rcases hr with hr | ⟨g, off, rfl, hg, hc⟩
    · cases hr
    have ct := hc 0 t rfl
    rw [Nat.add_zero] at ct
    obtain rfl : n = 1 := hl.symm
    have hcc : (1 : Int) ≤ cc := by omega
    rw [show laterE 112 [t] = ⟨112, [], [], t, []⟩ from rfl]
    have ct1 : (w.setCell ⟨p, 1, none⟩ (.bool true)).cell? ⟨g, off, none⟩ = some (.string ⟨t.toArray⟩) := by
      rw [World.cell?_setCell_other _ _ _ _ (show (⟨p, 1, none⟩ : Addr) ≠ ⟨g, off, none⟩ from fun e => by rw [← e, f1] at ct; cases ct)]
      exact ct
    clear hl hc hc9 hnc HT ct
    go_wp2_with fail
    simp [bodyPost, results, Tryd.results22, go_sem, Evented]
    exact ⟨evNums_nil _ _, evented_end rfl HW.out hp (((Below.refl _ _).alloc (by rw [World.size_setCell]; exact Nat.le_refl _) _).alloc (by simp [World.size_setCell]) _)⟩
  by_cases h83 : c = 83
  · subst h83
    rw [show (((83 : UInt8).toNat : Nat) : Int) = 83 from rfl]
    rw [show laterE 83 T = ⟨121, [], [], [], []⟩ from rfl]
    clear HT ht
    go_wp2_with fail
    simp [bodyPost, results, Tryd.results22, go_sem, Evented]
    exact ⟨evNums_nil _ _, evented_end rfl HW.out hp (((Below.refl _ _).alloc (by rw [World.size_setCell]; exact Nat.le_refl _) _).alloc (by simp [World.size_setCell]) _)⟩
  by_cases h88 : c = 88
  · subst h88
    rw [show (((88 : UInt8).toNat : Nat) : Int) = 88 from rfl]
    rw [show laterE 88 T = ⟨120, [], [], [], []⟩ from rfl]
    clear HT ht
    go_wp2_with fail
    simp [bodyPost, results, Tryd.results22, go_sem, Evented]
    exact ⟨evNums_nil _ _, evented_end rfl HW.out hp (((Below.refl _ _).alloc (by rw [World.size_setCell]; exact Nat.le_refl _) _).alloc (by simp [World.size_setCell]) _)⟩
  obtain ⟨c0, hc0⟩ : ∃ x : Int, x = (c.toNat : Nat) := ⟨_, rfl⟩
  rw [← hc0]
  have d1 : (c0 == 81) = false := by rw [hc0]; simpa using fun e : (c.toNat : Int) = 81 => h81 (UInt8.toNat_inj.1 (by show c.toNat = 81; omega))
  have d2 : (c0 == 112) = false := by rw [hc0]; simpa using fun e : (c.toNat : Int) = 112 => h112 (UInt8.toNat_inj.1 (by show c.toNat = 112; omega))
  have d3 : (c0 == 83) = false := by rw [hc0]; simpa using fun e : (c.toNat : Int) = 83 => h83 (UInt8.toNat_inj.1 (by show c.toNat = 83; omega))
  have d4 : (c0 == 88) = false := by rw [hc0]; simpa using fun e : (c.toNat : Int) = 88 => h88 (UInt8.toNat_inj.1 (by show c.toNat = 88; omega))
  rw [show laterE c T = ⟨117, [], [], [], []⟩ from by unfold laterE; rw [if_neg h81, if_neg h112, if_neg h83, if_neg h88]]
  clear HT ht h81 h112 h83 h88 hc0
  go_wp2_with fail
  simp [bodyPost, results, Tryd.results22, go_sem, Evented]
  exact ⟨evNums_nil _ _, evented_end rfl HW.out hp (((Below.refl _ _).alloc (by rw [World.size_setCell]; exact Nat.le_refl _) _).alloc (by simp [World.size_setCell]) _)⟩
end Go.Proofs.YtmofnkinclckoaaDoor

namespace Go.Proofs.YtmofnkinclckoaaDoor
open Go.RowKit Go.Lib

set_option maxHeartbeats 2000000 in
theorem next_more (p : Nat) (v : Value) (s : ByteArray) (bare : Bool) (w : World) (h : RIs w p v s bare 0) (hE : frameE s bare = 4) :
    Calls Tryd.prog 20 #[.pointer (some ⟨p, 0, none⟩)] w fun e w' => e = .returned (.tuple #[.agg #[.int .u8 0, .string { data := #[] }], .int .i64 4]) ∧ Below w.heap.size w w' := by
  obtain ⟨a, c, rfl⟩ := h.own.form
  obtain ⟨c0, c1, c2⟩ := h.cell
  have hp := h.lt
  have H := Lib.hid h
  have HR := Lib.hid h.own.reads
  have hF := fun W (hv : Reads W (.slice a s.size c) s) => firstB_err s (.slice a s.size c) bare W hv (by rw [hE]; decide)
  rw [hE] at hF
  have HF := Lib.hid hF
  clear hE hF
  clear h
  go_enter Tryd.func20, Tryd.ntmps20
  go_upto_region 3 with fail
  go_cut [4, 5, 6] (fun s4 s5 s6 wx => ∃ q : Nat, s4 = .pointer (some ⟨q, 0, none⟩) ∧ s5 = .int .i64 0 ∧ s6 = .int .i64 4 ∧ Behind w 0 { data := #[] } q wx)
  case first =>
    go_region_with (go_at_call 24; refine (HF.out _ (by first | exact HR.out.grown ((Below.refl _ _).alloc (Nat.le_refl _) _).drew | exact HR.out.grown (((Below.refl _ _).alloc (Nat.le_refl _) _).alloc (by simp) _).drew)).mono ?_; rintro e w1 ⟨rfl, hb1⟩; first | (have hX := next_before hp c0 c1 c2 hb1; obtain ⟨hB, d0, d1, d2, x2, y2, z2, z3, x4, y4, z4⟩ := hX) | (have hX := next_behind hp c0 c1 c2 hb1; obtain ⟨hB, d0, d1, d2, x2, y2, z2, z3⟩ := hX); clear hb1)
    all_goals go_wp2_with fail
    all_goals go_meet
    all_goals first | exact ⟨_, rfl, rfl, rfl, behind_new hB x2 y2 z2⟩ | exact ⟨_, rfl, rfl, rfl, behind_old hB x2 y2 z4 x4⟩
  case rest =>
    obtain ⟨q, rfl, rfl, rfl, hx, hy, hyf, hq1, hq2, hB⟩ := hcut
    clear HF HR c0 c1 c2
    go_wp2
    refine bodyPost_ret (v := .tuple #[.agg #[.int .u8 0, .string { data := #[] }], .int .i64 4]) (by simp [results, Tryd.results20, go_sem, hy]) rfl ⟨rfl, ?_⟩
    exact (hB.setCell (Nat.le_refl _) _).setCell (Nat.le_refl _) _
end Go.Proofs.YtmofnkinclckoaaDoor

namespace Go.Proofs.YtmofnkinclckoaaDoor
open Go.RowKit Go.Lib

set_option maxHeartbeats 2000000 in
theorem next_wrong (p : Nat) (v : Value) (s : ByteArray) (bare : Bool) (E : Int) (w : World) (h : RIs w p v s bare 0) (hE : frameE s bare = E) (h0 : ¬ E = 0) (h4 : ¬ E = 4) :
    Calls Tryd.prog 20 #[.pointer (some ⟨p, 0, none⟩)] w fun e w' => e = .returned (.tuple #[.agg #[.int .u8 0, .string { data := #[] }], .int .i64 E]) ∧ Nexted p v { data := #[] } bare E w w' := by
  obtain ⟨a, c, rfl⟩ := h.own.form
  obtain ⟨c0, c1, c2⟩ := h.cell
  have hp := h.lt
  have H := Lib.hid h
  have HR := Lib.hid h.own.reads
  have hF := fun W (hv : Reads W (.slice a s.size c) s) => firstB_err s (.slice a s.size c) bare W hv (by rw [hE]; exact h0)
  rw [hE] at hF
  have HF := Lib.hid hF
  have b0 : (E == 0) = false := by simpa using h0
  have b4 : (E == 4) = false := by simpa using h4
  clear hE hF
  clear h
  go_enter Tryd.func20, Tryd.ntmps20
  go_upto_region 3 with fail
  go_cut [4, 5, 6] (fun s4 s5 s6 wx => ∃ q : Nat, s4 = .pointer (some ⟨q, 0, none⟩) ∧ s5 = .int .i64 0 ∧ s6 = .int .i64 E ∧ Behind w 0 { data := #[] } q wx)
  case first =>
    go_region_with (go_at_call 24; refine (HF.out _ (by first | exact HR.out.grown ((Below.refl _ _).alloc (Nat.le_refl _) _).drew | exact HR.out.grown (((Below.refl _ _).alloc (Nat.le_refl _) _).alloc (by simp) _).drew)).mono ?_; rintro e w1 ⟨rfl, hb1⟩; first | (have hX := next_before hp c0 c1 c2 hb1; obtain ⟨hB, d0, d1, d2, x2, y2, z2, z3, x4, y4, z4⟩ := hX) | (have hX := next_behind hp c0 c1 c2 hb1; obtain ⟨hB, d0, d1, d2, x2, y2, z2, z3⟩ := hX); clear hb1)
    all_goals go_wp2_with fail
    all_goals go_meet
    all_goals first | exact ⟨_, rfl, rfl, rfl, behind_new hB x2 y2 z2⟩ | exact ⟨_, rfl, rfl, rfl, behind_old hB x2 y2 z4 x4⟩
  case rest =>
    obtain ⟨q, rfl, rfl, rfl, hx, hy, hyf, hq1, hq2, hB⟩ := hcut
    clear HF HR c0 c1 c2
    have hR := Lib.hid (H.out.grown hB)
    have d0 := hR.out.cell.1
    have d2 := hR.out.cell.2.2
    have f0 := hR.out.frozen 0
    have f2 := hR.out.frozen 2
    have hpx : p < wc.heap.size := hR.out.lt
    have hfin := Lib.hid (wrong_end (x := .int .u8 0) (y := .string { data := #[] }) (E := E) H.out hB)
    clear H hR
    go_wp2
    refine bodyPost_ret (v := .tuple #[.agg #[.int .u8 0, .string { data := #[] }], .int .i64 E]) (by simp [results, Tryd.results20, go_sem, hy]) rfl ⟨rfl, ?_⟩
    exact hfin.out
end Go.Proofs.YtmofnkinclckoaaDoor

namespace Go.Proofs.YtmofnkinclckoaaDoor
open Go.RowKit Go.Lib

set_option maxHeartbeats 2000000 in
theorem next_good (p : Nat) (v : Value) (s : ByteArray) (bare : Bool) (w : World) (h : RIs w p v s bare 0) (hE : frameE s bare = 0) :
    Calls Tryd.prog 20 #[.pointer (some ⟨p, 0, none⟩)] w fun e w' => e = .returned (.tuple #[.agg #[.int .u8 (headT s bare : Nat), .string (frameB s bare)], .int .i64 0]) ∧ Nexted p v (s.extract (frameN s bare) s.size) false 0 w w' := by
  obtain ⟨a, c, rfl⟩ := h.own.form
  obtain ⟨c0, c1, c2⟩ := h.cell
  have hp := h.lt
  have H := Lib.hid h
  have HR := Lib.hid h.own.reads
  have HF := Lib.hid (fun W (hv : Reads W (.slice a s.size c) s) => firstB_good s (.slice a s.size c) bare W hv hE)
  have hn0 : 0 < frameN s bare := by have := (good_frame hE); have h1 := this.2.1; unfold frameN; omega
  have hn1 := (good_frame hE).2.2.2.1
  clear hE
  clear h
  go_enter Tryd.func20, Tryd.ntmps20
  go_upto_region 3 with fail
  go_cut [4, 5, 6] (fun s4 s5 s6 wx => ∃ q : Nat, s4 = .pointer (some ⟨q, 0, none⟩) ∧ s5 = .int .i64 (frameN s bare : Nat) ∧ s6 = .int .i64 0 ∧ Behind w (headT s bare : Nat) (frameB s bare) q wx)
  case first =>
    go_region_with (go_at_call 24; refine (HF.out _ (by first | exact HR.out.grown ((Below.refl _ _).alloc (Nat.le_refl _) _).drew | exact HR.out.grown (((Below.refl _ _).alloc (Nat.le_refl _) _).alloc (by simp) _).drew)).mono ?_; rintro e w1 ⟨rfl, hb1⟩; first | (have hX := next_before hp c0 c1 c2 hb1; obtain ⟨hB, d0, d1, d2, x2, y2, z2, z3, x4, y4, z4⟩ := hX) | (have hX := next_behind hp c0 c1 c2 hb1; obtain ⟨hB, d0, d1, d2, x2, y2, z2, z3⟩ := hX); clear hb1)
    all_goals go_wp2_with fail
    all_goals go_meet
    all_goals first | exact ⟨_, rfl, rfl, rfl, behind_new hB x2 y2 z2⟩ | exact ⟨_, rfl, rfl, rfl, behind_old hB x2 y2 z4 x4⟩
  case rest =>
    obtain ⟨q, rfl, rfl, rfl, hx, hy, hyf, hq1, hq2, hB⟩ := hcut
    clear HF HR c0 c1 c2
    have hR := Lib.hid (H.out.grown hB)
    have d1 := hR.out.cell.2.1
    have f1 := hR.out.frozen 1
    have hpx : p < wc.heap.size := hR.out.lt
    go_wp2_with fail
    refine (drop_any p (.slice a s.size c) s (frameN s bare) false 0 _ (hR.out.setBare false) hn0 hn1).mono ?_; rintro e w2 ⟨rfl, v', hR2, hT2, hs2⟩
    obtain ⟨hx2, hy2, hyf2, hfin⟩ := good_end H.out hB hx hy hyf hq1 hq2 hR2 hT2 hs2
    have hF2 := Lib.hid hfin
    clear H hR hx hy hyf hB hR2 hT2 hs2 hfin d1 f1
    go_wp2
    refine bodyPost_ret (v := .tuple #[.agg #[.int .u8 (headT s bare : Nat), .string (frameB s bare)], .int .i64 0]) (by simp [results, Tryd.results20, go_sem, hy2]) rfl ⟨rfl, ?_⟩
    exact hF2.out
end Go.Proofs.YtmofnkinclckoaaDoor

namespace Go.Proofs.YtmofnkinclckoaaDoor
open Go.RowKit Go.Lib Go.WideShapes

theorem info_event : (Tryd.prog.info? 36).map (fun i => (i.zero, i.size, i.bytes)) = some (some (.agg #[.int .u8 0, .string { data := #[] }, .string { data := #[] }, .string { data := #[] }, .slice none 0 0]), 5, 80) := by kernel_rfl

/-- A front that goes on: its reader in block q, what that holds. -/
structure FIs (w : World) (p q : Nat) (v : Value) (s : ByteArray) (b : Bool) : Prop where
  cell : FCell w p (.pointer (some ⟨q, 0, none⟩)) b
  rd : RIs w q v s (!b) 0
  ne : p ≠ q
  row : some p ≠ v.ownBlock
def FSt (w : World) (p q : Nat) (v : Value) : Option (ByteArray × Bool) → Prop
  | some (s, b) => FIs w p q v s b
  | none => ∃ b, FCell w p (.pointer none) b
/-- Nothing that was there has turned, but for blocks p and q and one row. -/
structure TurnedF (w w' : World) (p q : Nat) (row : Option Nat) : Prop where
  os : w'.os = w.os
  tape : w'.tape = w.tape
  output : w'.output = w.output
  size : w.heap.size ≤ w'.heap.size
  block : ∀ k, k < w.heap.size → k ≠ p → k ≠ q → some k ≠ row → w'.heap[k]? = w.heap[k]?
theorem TurnedF.refl (w : World) (p q : Nat) (row : Option Nat) : TurnedF w w p q row := ⟨rfl, rfl, rfl, Nat.le_refl _, fun _ _ _ _ _ => rfl⟩
theorem TurnedF.below {w w' : World} {p q : Nat} {row : Option Nat} {B : Nat} (h : TurnedF w w' p q row) (hB : B ≤ w.heap.size) (hp : B ≤ p) (hq : B ≤ q) (hr : ∀ k, row = some k → B ≤ k) : Below B w w' :=
  ⟨h.os, h.tape, h.output, h.size, fun k hk => h.block k (by omega) (by omega) (by omega) (fun e => by have := hr k e.symm; omega)⟩
theorem TurnedF.q {w w1 w' : World} {p q : Nat} {row : Option Nat} (h : TurnedF w w1 p q row) (h2 : Turned w1 w' q none) : TurnedF w w' p q row :=
  ⟨h2.os.trans h.os, h2.tape.trans h.tape, h2.output.trans h.output, Nat.le_trans h.size h2.size, fun k hk hp hq hr => (h2.block k (Nat.lt_of_lt_of_le hk h.size) hq (by simp)).trans (h.block k hk hp hq hr)⟩
theorem TurnedF.p {w w1 w' : World} {p q : Nat} {row : Option Nat} (h : TurnedF w w1 p q row) (h2 : Turned w1 w' p none) : TurnedF w w' p q row :=
  ⟨h2.os.trans h.os, h2.tape.trans h.tape, h2.output.trans h.output, Nat.le_trans h.size h2.size, fun k hk hp hq hr => (h2.block k (Nat.lt_of_lt_of_le hk h.size) hp (by simp)).trans (h.block k hk hp hq hr)⟩
theorem TurnedF.b {w w1 w' : World} {p q : Nat} {row : Option Nat} (h : TurnedF w w1 p q row) (h2 : Below w.heap.size w1 w') : TurnedF w w' p q row :=
  ⟨h2.os.trans h.os, h2.tape.trans h.tape, h2.output.trans h.output, Nat.le_trans h.size h2.size, fun k hk hp hq hr => (h2.block k hk).trans (h.block k hk hp hq hr)⟩
theorem TurnedF.one {w w1 : World} {p q : Nat} {row : Option Nat} (h : Turned w w1 q row) : TurnedF w w1 p q row :=
  ⟨h.os, h.tape, h.output, h.size, fun k hk _ hq hr => h.block k hk hq hr⟩

/-- The cells of an event in a row v; its numbers lie apart from it, above B. -/
def EvAt (w : World) (B : Nat) (v : Value) (ys : List Value) (i : Nat) (E : Ev) : Prop := ∃ sl, ys[i * 5]? = some (.int .u8 (E.k.toNat : Nat)) ∧ ys[i * 5 + 1]? = some (.string ⟨E.u.toArray⟩) ∧ ys[i * 5 + 2]? = some (.string ⟨E.d.toArray⟩) ∧ ys[i * 5 + 3]? = some (.string ⟨E.t.toArray⟩) ∧ ys[i * 5 + 4]? = some sl ∧ EvNums w (fun g => B ≤ g ∧ some g ≠ v.ownBlock) E.n sl
def EvRow (w : World) (B : Nat) (v : Value) (L : List Ev) : Prop := ∃ xs, w.ownsRow B 36 5 v L.length xs ∧ ∀ i E, L[i]? = some E → EvAt w B v xs i E
theorem EvRow.nil (w : World) (B : Nat) : EvRow w B (.slice none 0 0) [] := ⟨[], ⟨rfl, .inl ⟨rfl, rfl⟩⟩, fun i x h => by cases h⟩
theorem nums_keep {w w' : World} {B : Nat} {v : Value} {n : List Int} (h : NumsIn w v n) (_ : n ≠ []) (hq : ∀ a m d, v = .slice a m d → ∀ g off, a = some ⟨g, off, none⟩ → B ≤ g) (hz : w.heap.size ≤ w'.heap.size) (hb : ∀ k, B ≤ k → k < w.heap.size → w'.heap[k]? = w.heap[k]?) : NumsIn w' v n := by
  obtain ⟨a', n', c', hv, hl, h1, h2, hr⟩ := h
  refine ⟨a', n', c', hv, hl, h1, h2, hr.imp id ?_⟩
  rintro ⟨g, off, hga, hlt, hc⟩
  refine ⟨g, off, hga, Nat.lt_of_lt_of_le hlt hz, fun j t ht => ?_⟩
  rw [World.cell?_of_block (a := ⟨g, off + j, none⟩) (hb g (hq _ _ _ hv g off hga) hlt)]
  exact hc j t ht
theorem EvNums.keep {w w' : World} {B : Nat} {v sl : Value} {n : List Int} (h : EvNums w (fun g => B ≤ g ∧ some g ≠ v.ownBlock) n sl) (hz : w.heap.size ≤ w'.heap.size) (hb : ∀ k, B ≤ k → k < w.heap.size → w'.heap[k]? = w.heap[k]?) : EvNums w' (fun g => B ≤ g ∧ some g ≠ v.ownBlock) n sl := by
  obtain ⟨b, m, d, rfl, h2, h3⟩ := h
  refine ⟨b, m, d, rfl, ?_, h3⟩
  by_cases hn : n = []
  · subst hn
    obtain ⟨a', n', c', hv, hl, h1, h2', hr⟩ := h2
    exact ⟨a', n', c', hv, hl, h1, h2', .inl rfl⟩
  · exact nums_keep h2 hn (fun a m' d' e g off ha => by injection e with e1 _ _; exact (h3 hn g off (e1.trans ha)).1) hz hb
theorem EvRow.keep {w w' : World} {B : Nat} {v : Value} {L : List Ev} (h : EvRow w B v L) (hz : w.heap.size ≤ w'.heap.size) (hb : ∀ k, B ≤ k → k < w.heap.size → w'.heap[k]? = w.heap[k]?) : EvRow w' B v L := by
  obtain ⟨xs, h1, h2⟩ := h
  refine ⟨xs, ⟨h1.1, h1.2.imp id fun ⟨g, cap, cur, e1, e2, e3, e4⟩ => ⟨g, cap, cur, e1, e2, (hb g e2 (Array.getElem?_eq_some_iff.1 e3).1).trans e3, e4⟩⟩, fun i E hi => ?_⟩
  obtain ⟨sl, c0, c1, c2, c3, c4, c5⟩ := h2 i E hi
  exact ⟨sl, c0, c1, c2, c3, c4, c5.keep hz hb⟩
theorem EvRow.base {w : World} {B B' : Nat} {v : Value} {L : List Ev} (h : EvRow w B v L) (hB : B' ≤ B) : EvRow w B' v L := by
  obtain ⟨xs, h1, h2⟩ := h
  refine ⟨xs, ⟨h1.1, h1.2.imp id fun ⟨g, cap, cur, e1, e2, e3⟩ => ⟨g, cap, cur, e1, Nat.le_trans hB e2, e3⟩⟩, fun i E hi => ?_⟩
  obtain ⟨sl, c0, c1, c2, c3, c4, b, m, d, e1, e2, e3⟩ := h2 i E hi
  exact ⟨sl, c0, c1, c2, c3, c4, b, m, d, e1, e2, fun hn g off e => ⟨Nat.le_trans hB (e3 hn g off e).1, (e3 hn g off e).2⟩⟩
/-- A row of events that grows by one. -/
theorem EvRow.put {w w' : World} {B : Nat} {v v' sl : Value} {L : List Ev} {E : Ev} {xs : List Value} (hx : ∀ i E, L[i]? = some E → EvAt w B v xs i E) (hl : xs.length = L.length * 5) (hO : w'.ownsRow B 36 5 v' (L.length + 1) (xs ++ [.int .u8 (E.k.toNat : Nat), .string ⟨E.u.toArray⟩, .string ⟨E.d.toArray⟩, .string ⟨E.t.toArray⟩, sl])) (hE : EvNums w (fun g => B ≤ g ∧ some g ≠ v.ownBlock) E.n sl) (hg : w.grownBy w' v.ownBlock) (hf : ∀ k, v'.ownBlock = some k → v.ownBlock = some k ∨ w.heap.size ≤ k) : EvRow w' B v' (L ++ [E]) := by
  have hk : ∀ n (y : Value), EvNums w (fun g => B ≤ g ∧ some g ≠ v.ownBlock) n y → EvNums w' (fun g => B ≤ g ∧ some g ≠ v'.ownBlock) n y := by
    rintro n y ⟨b, m, d, rfl, h2, h3⟩
    refine ⟨b, m, d, rfl, ?_, fun hn g off e => ⟨(h3 hn g off e).1, fun e9 => ?_⟩⟩
    · by_cases hn : n = []
      · subst hn
        obtain ⟨a', n', c', hv, hl, h1, h2', hr⟩ := h2
        exact ⟨a', n', c', hv, hl, h1, h2', .inl rfl⟩
      · obtain ⟨a', n', c', hv, hl, h1, h2', hr⟩ := h2
        injection hv with q1 q2 q3
        subst q1 q2 q3
        exact ⟨b, m, d, rfl, hl, h1, h2', hr.imp id fun ⟨g, off, hga, hlt, hc⟩ => ⟨g, off, hga, Nat.lt_of_lt_of_le hlt hg.size, fun i t ht => hg.cell (hc i t ht) (h3 hn g off hga).2⟩⟩
    · rcases hf g e9.symm with hh | hh
      · exact (h3 hn g off e).2 hh.symm
      · obtain ⟨a', n', c', hv, hl, h1, h2', hr⟩ := h2
        injection hv with q1 q2 q3
        subst q1 q2 q3
        rcases hr with hr | ⟨g', off', hga, hlt, _⟩
        · exact hn hr
        · rw [e] at hga; cases hga; omega
  refine ⟨_, by rw [List.length_append, List.length_singleton]; exact hO, fun i F hi => ?_⟩
  by_cases hlt : i < L.length
  · rw [List.getElem?_append_left hlt] at hi
    obtain ⟨s9, c0, c1, c2, c3, c4, c5⟩ := hx i F hi
    exact ⟨s9, by rw [List.getElem?_append_left (by omega)]; exact c0, by rw [List.getElem?_append_left (by omega)]; exact c1, by rw [List.getElem?_append_left (by omega)]; exact c2, by rw [List.getElem?_append_left (by omega)]; exact c3, by rw [List.getElem?_append_left (by omega)]; exact c4, hk _ _ c5⟩
  · have hi2 : i = L.length := by
      have := (List.getElem?_eq_some_iff.1 hi).1
      rw [List.length_append, List.length_singleton] at this
      omega
    subst hi2
    rw [List.getElem?_append_right (Nat.le_refl _), Nat.sub_self] at hi
    obtain rfl : E = F := Option.some.inj hi
    exact ⟨sl, by rw [List.getElem?_append_right (by omega), show L.length * 5 - xs.length = 0 by omega]; rfl, by rw [List.getElem?_append_right (by omega), show L.length * 5 + 1 - xs.length = 1 by omega]; rfl, by rw [List.getElem?_append_right (by omega), show L.length * 5 + 2 - xs.length = 2 by omega]; rfl, by rw [List.getElem?_append_right (by omega), show L.length * 5 + 3 - xs.length = 3 by omega]; rfl, by rw [List.getElem?_append_right (by omega), show L.length * 5 + 4 - xs.length = 4 by omega]; rfl, hk _ _ hE⟩

/-- Rows of two kinds are two rows. -/
theorem rows_apart {w : World} {base size n p : Nat} {e u : TypeId} {o v : Value} {xs : List Value} {s : ByteArray} (h : w.ownsRow base e size o n xs) (hv : OwnB w u p v s) (hne : e ≠ u) : ∀ k, o.ownBlock = some k → some k ≠ v.ownBlock := by
  intro k hk hkv
  rcases h.2 with ⟨rfl, _⟩ | ⟨g, cap, cur, rfl, hb, hgg, rest⟩
  · simp [Value.ownBlock] at hk
  · simp [Value.ownBlock] at hk
    subst hk
    rcases hv with ⟨rfl, _⟩ | ⟨g', o', cap', cur', rfl, _, h1, _⟩
    · simp [Value.ownBlock] at hkv
    · simp [Value.ownBlock] at hkv
      subst hkv
      rw [hgg] at h1
      simp at h1
      exact hne h1.2

theorem five_cells (w : World) (a b c d e : Value) (T : TypeId) : ∀ j u, [a, b, c, d, e][j]? = some u → (w.alloc (.cells #[a, b, c, d, e] T)).cell? ((⟨w.heap.size, 0, none⟩ : Addr).add j) = some u := by
  intro j u hj
  match j, hj with
  | 0, hj => simp at hj; subst hj; simp [Addr.add, go_sem]
  | 1, hj => simp at hj; subst hj; simp [Addr.add, go_sem]
  | 2, hj => simp at hj; subst hj; simp [Addr.add, go_sem]
  | 3, hj => simp at hj; subst hj; simp [Addr.add, go_sem]
  | 4, hj => simp at hj; subst hj; simp [Addr.add, go_sem]
  | n + 5, hj => simp at hj
theorem over_no (p q : Nat) (b : Bool) (w : World) (h : FCell w p (.pointer (some ⟨q, 0, none⟩)) b) : Calls Tryd.prog 14 #[.pointer (some ⟨p, 0, none⟩)] w fun e w' => e = .returned (.bool false) ∧ w = w' := by
  obtain ⟨c0, c1⟩ := h.cell
  clear h
  go_enter Tryd.func14, Tryd.ntmps14
  go_wp2_with fail
  go_ret
  exact ⟨rfl, rfl⟩
theorem over_yes (p : Nat) (b : Bool) (w : World) (h : FCell w p (.pointer none) b) : Calls Tryd.prog 14 #[.pointer (some ⟨p, 0, none⟩)] w fun e w' => e = .returned (.bool true) ∧ w = w' := by
  obtain ⟨c0, c1⟩ := h.cell
  clear h
  go_enter Tryd.func14, Tryd.ntmps14
  go_wp2_with fail
  go_ret
  exact ⟨rfl, rfl⟩
theorem newF_any (w : World) : Calls Tryd.prog 8 #[] w fun e w' => ∃ p q, e = .returned (.pointer (some ⟨p, 0, none⟩)) ∧ FIs w' p q (.slice none 0 0) { data := #[] } false ∧ Below w.heap.size w w' ∧ (w.heap.size ≤ p ∧ w.heap.size ≤ q) := by
  go_enter Tryd.func8, Tryd.ntmps8
  go_wp2_with fail
  refine (new_any _ _).mono ?_; rintro e w1 ⟨rfl, rfl⟩
  go_wp2_with fail
  go_ret
  refine ⟨w.heap.size + 1, w.heap.size, rfl, ⟨?_, ⟨?_, .inl ⟨rfl, rfl⟩⟩, by omega, by simp [Value.ownBlock]⟩, ((Below.refl _ _).alloc (Nat.le_refl _) _).alloc (by simp) _, by omega, Nat.le_refl _⟩
  · unfold FCell
    have := heap_alloc_new (w.alloc (.cells #[.slice none 0 0, .bool true, .int .i64 0] 59)) (.cells #[.pointer (some ⟨w.heap.size, 0, none⟩), .bool false] 43)
    rw [World.size_alloc] at this
    exact this
  · rw [heap_alloc_old _ _ (by simp)]
    exact heap_alloc_new _ _
end Go.Proofs.YtmofnkinclckoaaDoor

namespace Go.Proofs.YtmofnkinclckoaaDoor

def dsum (s : RS) : Nat := s.S.length + (s.T.map List.length).sum
def NarS (f : RS → Option RS) : Prop := ∀ s s', f s = some s' → dsum s' ≤ dsum s
theorem dsum_take {k : Nat} {b : Bs} {s s' : RS} (h : rTake k s = some (b, s')) : dsum s' + b.length = dsum s := by
  obtain ⟨e1, e2, e3, _⟩ := take_out h
  have := congrArg List.length e1
  rw [List.length_append] at this
  unfold dsum
  rw [e3]; omega
theorem dsum_put (s : RS) (b : Bs) : dsum { s with T := s.T ++ [b] } = dsum s + b.length := by
  unfold dsum
  show s.S.length + ((s.T ++ [b]).map List.length).sum = _
  rw [List.map_append, List.sum_append]
  simp; omega
theorem dsum_signed {k : Nat} {n : Int} {s s' : RS} (h : rSigned k s = some (n, s')) : dsum s' ≤ dsum s := by
  unfold rSigned at h
  cases hx : rTake k s with
  | none => rw [hx] at h; cases h
  | some p =>
    obtain ⟨b, s1⟩ := p
    rw [hx] at h
    simp only [Option.map_some, Option.some.injEq, Prod.mk.injEq] at h
    obtain ⟨_, rfl⟩ := h
    have := dsum_take hx
    omega
theorem dsum_keep (n : Int) (s : RS) : dsum (rKeep n s) = dsum s := rfl
theorem nars_num (k : Nat) : NarS (fun s => (rSigned k s).map fun p => rKeep p.1 p.2) := by
  intro s s' h
  cases hx : rSigned k s with
  | none => simp only [hx] at h; cases h
  | some p =>
    obtain ⟨n, s1⟩ := p
    simp only [hx] at h
    obtain rfl := Option.some.inj h
    have h1 : dsum s1 ≤ dsum s := dsum_signed hx
    exact h1
theorem nars_text : NarS rText := by
  intro s s' h
  obtain ⟨t, e1, _, e3, _⟩ := text_out h
  unfold dsum
  rw [e1, e3, List.map_append, List.sum_append, List.length_append, List.length_append]
  simp; omega
theorem nars_byte : NarS rByte := by
  intro s s' h
  obtain ⟨c, e1, e2, _, _⟩ := byte_out h
  unfold dsum
  rw [e1, e2, List.length_cons]; omega
theorem nars_bind {f g : RS → Option RS} (hf : NarS f) (hg : NarS g) : NarS (fun s => (f s).bind g) := by
  intro s s' h
  cases hx : f s with
  | none => simp only [hx] at h; cases h
  | some s1 => simp only [hx] at h; exact Nat.le_trans (hg _ _ h) (hf _ _ hx)
theorem nars_value : NarS rValue := by
  intro s s' h
  unfold rValue at h
  cases hx : rSigned 4 s with
  | none => rw [hx] at h; cases h
  | some p =>
    obtain ⟨n, s1⟩ := p
    rw [hx] at h
    simp only [Option.bind_some] at h
    have h1 := dsum_signed hx
    split at h
    · split at h
      · obtain rfl := Option.some.inj h; exact h1
      · unfold rRaw at h
        cases hy : rTake n.toNat (rKeep n s1) with
        | none => rw [hy] at h; cases h
        | some p =>
          obtain ⟨b, s2⟩ := p
          rw [hy] at h
          obtain rfl := Option.some.inj h
          have h2 := dsum_take hy
          have h3 := dsum_put s2 b
          have h4 := dsum_keep n s1
          show dsum { s2 with T := s2.T ++ [b] } ≤ _
          omega
    · cases h
theorem nars_tail : NarS rTail := by
  intro s s' h
  unfold rTail at h
  cases hy : rTake 18 s with
  | none => rw [hy] at h; cases h
  | some p =>
    obtain ⟨b, s2⟩ := p
    rw [hy] at h
    simp only [Option.bind_some] at h
    split at h
    · obtain rfl := Option.some.inj h
      have := dsum_take hy
      omega
    · cases h
theorem nars_rep {f : RS → Option RS} (hf : NarS f) : ∀ n, NarS (rRep n f)
  | 0 => fun s s' h => by obtain rfl := Option.some.inj h; exact Nat.le_refl _
  | n + 1 => nars_bind hf (nars_rep hf n)
theorem nars_counted {f : RS → Option RS} (hf : NarS f) : NarS (rCounted f) := by
  intro s s' h
  unfold rCounted at h
  cases hx : rSigned 2 s with
  | none => rw [hx] at h; cases h
  | some p =>
    obtain ⟨n, s1⟩ := p
    rw [hx] at h
    simp only [Option.bind_some] at h
    split at h
    · have h1 := dsum_signed hx
      have h2 := nars_rep hf _ _ _ h
      have h3 := dsum_keep n s1
      omega
    · cases h
theorem nars_row {f : RS → Option RS} (hf : NarS f) : ∀ (k : Nat) (s : RS) (m : Nat) (s' : RS), rRow f k s = some (m, s') → dsum s' ≤ dsum s := by
  intro k
  induction k with
  | zero => intro s m s' h; cases h
  | succ k ih =>
    intro s m s' h
    rw [rRow] at h
    cases hS : s.S with
    | nil => rw [hS] at h; cases h
    | cons b r =>
      rw [hS] at h
      simp only at h
      split at h
      · simp only [Option.some.injEq, Prod.mk.injEq] at h
        obtain ⟨_, rfl⟩ := h
        unfold dsum
        rw [hS, List.length_cons]; show r.length + (s.T.map List.length).sum ≤ _; omega
      · cases hx : f s with
        | none => rw [hx] at h; cases h
        | some s1 =>
          rw [hx] at h
          cases hy : rRow f k s1 with
          | none => simp only [Option.bind_some, hy] at h; cases h
          | some p =>
            obtain ⟨m1, s2⟩ := p
            simp only [Option.bind_some, hy, Option.map_some, Option.some.injEq, Prod.mk.injEq] at h
            obtain ⟨_, rfl⟩ := h
            exact Nat.le_trans (ih s1 m1 s2 hy) (hf s s1 hx)
theorem nars_pairs : NarS rPairs := by
  intro s s' h
  unfold rPairs at h
  cases hx : rRow rText s.S.length s with
  | none => rw [hx] at h; cases h
  | some p =>
    obtain ⟨m, s1⟩ := p
    rw [hx] at h
    simp only [Option.bind_some] at h
    split at h
    · obtain rfl := Option.some.inj h
      exact (show dsum s1 ≤ dsum s from nars_row nars_text _ _ _ _ hx)
    · cases h
theorem nars_fields : NarS rFields := by
  intro s s' h
  unfold rFields at h
  cases hx : rRow rItem s.S.length (rKeep 0 s) with
  | none => rw [hx] at h; cases h
  | some p =>
    obtain ⟨m, s1⟩ := p
    rw [hx] at h
    obtain rfl := Option.some.inj h
    exact (show dsum s1 ≤ dsum (rKeep 0 s) from nars_row (f := rItem) (nars_bind nars_byte nars_text) _ _ _ _ hx)
theorem nars_field (c : UInt8) : NarS (rField c) := by
  intro s s' h
  unfold rField at h
  split at h
  · exact nars_text _ _ h
  split at h
  · exact nars_byte _ _ h
  split at h
  · exact nars_num 4 _ _ h
  split at h
  · exact nars_pairs _ _ h
  split at h
  · exact nars_fields _ _ h
  split at h
  · exact nars_counted (nars_num 2) _ _ h
  split at h
  · exact nars_counted (nars_num 4) _ _ h
  split at h
  · exact nars_counted nars_value _ _ h
  split at h
  · exact nars_counted (nars_bind nars_text nars_tail) _ _ h
  · obtain rfl := Option.some.inj h; exact Nat.le_refl _
theorem all_bounds : ∀ (l : Bs) (s s' : RS), rAll l s = some s' → dsum s' ≤ dsum s ∧ droom s' ≤ droom s
  | [], s, s', h => by obtain rfl := Option.some.inj h; exact ⟨Nat.le_refl _, Nat.le_refl _⟩
  | c :: l, s, s', h => by
    rw [rAll] at h
    cases hx : rField c s with
    | none => rw [hx] at h; cases h
    | some s1 =>
      rw [hx] at h
      obtain ⟨h1, h2⟩ := all_bounds l s1 s' h
      exact ⟨Nat.le_trans h1 (nars_field c _ _ hx), Nat.le_trans h2 (nar_field c _ _ hx)⟩
/-- The texts and numbers of a body are no more than it. -/
theorem read_bounds {back : Bool} {c : UInt8} {S : Bs} {T : List Bs} {N : List Int} (h : readL back c S = some (T, N)) : (T.map List.length).sum ≤ S.length ∧ T.length + N.length ≤ S.length := by
  unfold readL at h
  cases hl : layR back c S with
  | none => rw [hl] at h; cases h
  | some l =>
    rw [hl] at h
    simp only [Option.bind_some] at h
    cases hx : rAll l ⟨S, [], []⟩ with
    | none => rw [hx] at h; cases h
    | some s' =>
      rw [hx] at h
      simp only [Option.bind_some] at h
      unfold rDone at h
      split at h
      · simp only [Option.some.injEq, Prod.mk.injEq] at h
        obtain ⟨rfl, rfl⟩ := h
        obtain ⟨h1, h2⟩ := all_bounds l _ _ hx
        have e1 : dsum ⟨S, [], []⟩ = S.length := rfl
        have e2 : droom ⟨S, [], []⟩ = S.length := rfl
        rw [e1] at h1
        rw [e2] at h2
        unfold dsum at h1
        unfold droom at h2
        exact ⟨by omega, by omega⟩
      · cases h
end Go.Proofs.YtmofnkinclckoaaDoor
