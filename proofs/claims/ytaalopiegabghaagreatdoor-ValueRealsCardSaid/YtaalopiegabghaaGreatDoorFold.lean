/- A text without great letters. -/
import Derived.Test.YtaalopiegabghaaGreatDoorPb
import Derived.Lib.BufferRead
import Derived.Deep.Cut
namespace Go.Proofs.YtaalopiegabghaaGreatDoor
open Go.RowKit Go.Lib Go.WideShapes

def lowN (n : Nat) : Nat := (low (UInt8.ofNat n)).toNat

theorem lowN_eq (n : Nat) (hn : n < 256) : lowN n = if 65 ≤ n ∧ n ≤ 90 then n + 32 else n := by
  unfold lowN low
  have e : (65 ≤ UInt8.ofNat n ∧ UInt8.ofNat n ≤ 90) ↔ (65 ≤ n ∧ n ≤ 90) := by
    simp [UInt8.le_iff_toNat_le, UInt8.toNat_ofNat, Nat.mod_eq_of_lt hn]
  by_cases h : 65 ≤ n ∧ n ≤ 90
  · rw [if_pos (e.2 h), if_pos h, UInt8.toNat_add, UInt8.toNat_ofNat', Nat.mod_eq_of_lt hn]
    show (n + 32) % 256 = _
    omega
  · rw [if_neg (mt e.1 h), if_neg h, UInt8.toNat_ofNat', Nat.mod_eq_of_lt hn]

/-- The bytes of s in block g, those ahead of k folded. -/
structure Folds (w wr : World) (g : Nat) (s : ByteArray) (k : Nat) : Prop where
  below : Below w.heap.size w wr
  new : w.heap.size ≤ g
  cells : ∀ j, j < s.size → wr.cell? ⟨g, j, none⟩ = some (.int .u8 (if j < k then lowN (pb s j) else pb s j : Nat))
  free : ∀ j, j < s.size → wr.frozen? ⟨g, j, none⟩ = false

theorem Folds.next {w wr : World} {g : Nat} {s : ByteArray} {k : Nat} (h : Folds w wr g s k) (hk : k < s.size) (he : lowN (pb s k) = pb s k) : Folds w wr g s (k + 1) := by
  refine ⟨h.below, h.new, fun j hj => ?_, h.free⟩
  rw [h.cells j hj]
  by_cases h1 : j < k
  · rw [if_pos h1, if_pos (by omega)]
  · rw [if_neg h1]
    by_cases h2 : j = k
    · subst h2; rw [if_pos (by omega), he]
    · rw [if_neg (by omega)]

theorem Folds.store {w wr : World} {g : Nat} {s : ByteArray} {k : Nat} {z : Int} (h : Folds w wr g s k) (hk : k < s.size) (he : z = (lowN (pb s k) : Nat)) : Folds w (wr.setCell ⟨g, k, none⟩ (.int .u8 z)) g s (k + 1) := by
  refine ⟨h.below.setCell h.new _, h.new, fun j hj => ?_, fun j hj => by rw [World.frozen?_setCell]; exact h.free j hj⟩
  by_cases h2 : j = k
  · subst h2
    rw [World.cell?_setCell_same _ _ _ (h.cells j hj), if_pos (by omega), he]
  · rw [World.cell?_setCell_other _ _ _ _ (by intro e; injection e with _ e2; exact h2 e2.symm), h.cells j hj]
    by_cases h1 : j < k
    · rw [if_pos h1, if_pos (by omega)]
    · rw [if_neg h1, if_neg (by omega)]

theorem bytesRow_at (s : ByteArray) (cap j : Nat) (hj : j < s.size) : (bytesRow s cap)[j]? = some (.int .u8 ((s[j]'hj).toNat : Nat)) := by
  have hj' : j < s.data.size := hj
  unfold bytesRow
  rw [Array.getElem?_append, if_pos (by simpa using hj'), Array.getElem?_map, Array.getElem?_eq_getElem hj']
  rfl

theorem folds_start (s : ByteArray) (w : World) : ∃ c W, (convert 9 67 (.string s)).run Tryz.prog w = .ok (.slice (some ⟨w.heap.size, 0, none⟩) s.size c) W ∧ Folds w W w.heap.size s 0 := by
  refine ⟨_, _, run_bytes_of_string (P := Tryz.prog) w 9 67 5 s Tryz.underlying9 Tryz.underlying67 Tryz.underlying5, ?_, Nat.le_refl _, fun j hj => ?_, fun j hj => ?_⟩
  · exact (below_drewN (Below.refl w.heap.size w) 1).alloc (Nat.le_refl _) _
  · have hh := heap_alloc_new w.drew (.cells (bytesRow s (grownCap w s.size 0 5)) 5 ((bytesRow s (grownCap w s.size 0 5)).size, (bytesRow s (grownCap w s.size 0 5)).size + 1))
    have hh : (w.drew.alloc (.cells (bytesRow s (grownCap w s.size 0 5)) 5 ((bytesRow s (grownCap w s.size 0 5)).size, (bytesRow s (grownCap w s.size 0 5)).size + 1))).heap[w.heap.size]? = _ := hh
    rw [if_neg (by omega), ← pb_at s j hj]
    simp only [World.cell?, hh]
    exact bytesRow_at s _ j hj
  · have hh := heap_alloc_new w.drew (.cells (bytesRow s (grownCap w s.size 0 5)) 5 ((bytesRow s (grownCap w s.size 0 5)).size, (bytesRow s (grownCap w s.size 0 5)).size + 1))
    have hh : (w.drew.alloc (.cells (bytesRow s (grownCap w s.size 0 5)) 5 ((bytesRow s (grownCap w s.size 0 5)).size, (bytesRow s (grownCap w s.size 0 5)).size + 1))).heap[w.heap.size]? = _ := hh
    simp only [World.frozen?, hh]
    have : s.size ≤ (bytesRow s (grownCap w s.size 0 5)).size := by simp [bytesRow]
    simp; omega

theorem fold_text (s : ByteArray) : ∀ j (hj : j < ((bytes s).map low).length), (((bytes s).map low)[j].toNat : Int) = (lowN (pb s j) : Nat) := by
  intro j hj
  rw [List.getElem_map]
  unfold lowN pb
  rw [List.length_map] at hj
  rw [List.getD, List.getElem?_eq_getElem hj]
  simp

theorem Folds.text {w wr : World} {g : Nat} {s : ByteArray} (h : Folds w wr g s s.size) (c : Nat) : (convert 67 9 (.slice (some ⟨g, 0, none⟩) s.size c)).run Tryz.prog wr = .ok (.string ⟨((bytes s).map low).toArray⟩) wr := by
  have := run_convert_bytes_back (P := Tryz.prog) wr 67 9 5 ⟨g, 0, none⟩ c ((bytes s).map low) Tryz.underlying67 Tryz.underlying5 Tryz.underlying9 (fun k hk => by
    rw [add_plain, Nat.zero_add]
    have hk' : k < s.size := by rw [List.length_map, bytes_len] at hk; exact hk
    rw [h.cells k hk', if_pos hk', fold_text s k hk])
  rwa [List.length_map, bytes_len] at this

set_option maxHeartbeats 2000000 in
theorem fold_wide (s : ByteArray) (w : World) (hs : s.size ≤ 1000000) :
    Calls Tryz.prog 16 #[.string s] w fun e w' => e = .returned (.string ⟨((bytes s).map low).toArray⟩) ∧ Below w.heap.size w w' := by
  obtain ⟨cap, W, hcv, hF⟩ := folds_start s w
  have HF := Lib.hid hF
  obtain ⟨g, hg⟩ : ∃ g, g = w.heap.size := ⟨_, rfl⟩
  rw [← hg] at hcv HF
  clear hF hg
  go_enter Tryz.func16, Tryz.ntmps16
  go_wp2_with fail
  clear hcv
  go_loopw [10, 10] (fun i _ wr => ∃ k : Nat, k ≤ s.size ∧ i = .int .i64 k ∧ Folds w wr g s k) (fun i _ _ => s.size - (RowKit.intOf i).toNat)
  case atStart => exact ⟨0, Nat.zero_le _, rfl, HF.out⟩
  case round =>
    obtain ⟨k, hk, rfl, hF⟩ := hrel
    have HK := Lib.hid hF
    clear HF
    by_cases hlt : k < s.size
    · have c0 := hF.cells k hlt
      have f0 := hF.free k hlt
      rw [if_neg (by omega)] at c0
      have hc8 := pb_lt s k
      have hlo := lowN_eq (pb s k) hc8
      have HN := Lib.hid (fun h => HK.out.next hlt h); have HS := Lib.hid (fun (z : Int) (h : z = (lowN (pb s k) : Nat)) => HK.out.store hlt h)
      obtain ⟨c, hc⟩ : ∃ c, c = pb s k := ⟨_, rfl⟩
      rw [← hc] at c0 hc8 hlo HN HS
      have hlt' : (k : Int) < s.size := by omega
      clear hF hc HK
      by_cases h1 : 65 ≤ c ∧ c ≤ 90
      · rw [if_pos h1] at hlo
        obtain ⟨h1, h2⟩ := h1
        have h1' : (65 : Int) ≤ c := by omega
        have h2' : (c : Int) ≤ 90 := by omega
        have HLO := Lib.hid hlo
        clear hlo
        go_wp2_with fail
        go_roundw
        case rel => exact ⟨k + 1, by omega, by go_num, HS.out _ (by rw [HLO.out]; omega)⟩
        case measure => simp [RowKit.intOf]; omega
      · rw [if_neg h1] at hlo
        have HLO := Lib.hid hlo
        have h2 : decide ((65 : Int) ≤ c) = false ∨ decide ((65 : Int) ≤ c) = true ∧ decide ((c : Int) ≤ 90) = false := by
          by_cases h : (65 : Int) ≤ c
          · exact .inr ⟨decide_eq_true h, decide_eq_false (by omega)⟩
          · exact .inl (decide_eq_false h)
        clear hlo h1
        rcases h2 with h2 | ⟨h2, h3⟩
        · have h2' : (c : Int) < 65 := by simpa using h2
          go_wp2_with fail
          go_roundw
          case rel => exact ⟨k + 1, by omega, by go_num, HN.out HLO.out⟩
          case measure => simp [RowKit.intOf]; omega
        · have h2' : (65 : Int) ≤ c := by simpa using h2
          have h3' : (90 : Int) < c := by simpa using h3
          go_wp2_with fail
          go_roundw
          case rel => exact ⟨k + 1, by omega, by go_num, HN.out HLO.out⟩
          case measure => simp [RowKit.intOf]; omega
    · obtain rfl : k = s.size := by omega
      have htx := HK.out.text cap
      have HB := Lib.hid hF.below
      clear hF
      go_wp2_with fail
      go_ret
      exact ⟨rfl, HB.out⟩
theorem fold_any (s : ByteArray) (w : World) (hs : s.size ≤ 2000) :
    Calls Tryz.prog 16 #[.string s] w fun e w' => e = .returned (.string ⟨((bytes s).map low).toArray⟩) ∧ Below w.heap.size w w' := fold_wide s w (by omega)
end Go.Proofs.YtaalopiegabghaaGreatDoor
