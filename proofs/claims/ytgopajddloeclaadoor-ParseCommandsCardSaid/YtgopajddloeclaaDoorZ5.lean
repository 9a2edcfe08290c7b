/- Contracts and mathematics: Fold, Word. -/
import Derived.Test.YtgopajddloeclaaDoorZ1
import Derived.Lib.BufferRead
import Derived.Deep.Cut
import Derived.Test.YtgopajddloeclaaDoorZ3
namespace Go.Proofs.YtgopajddloeclaaDoor
open Go.RowKit Go.Lib Go.WideShapes

def lowN (n : Nat) : Nat := (low (UInt8.ofNat n)).toNat

theorem lowN_eq (n : Nat) (hn : n < 256) : lowN n = if 65 ≤ n ∧ n ≤ 90 then n + 32 else n := by
  unfold lowN low
  have e : (65 ≤ UInt8.ofNat n ∧ UInt8.ofNat n ≤ 90) ↔ (65 ≤ n ∧ n ≤ 90) := by
    simp [UInt8.le_iff_toNat_le, UInt8.toNat_ofNat, Nat.mod_eq_of_lt hn]
  by_cases h : 65 ≤ n ∧ n ≤ 90
  · rw [if_pos (e.2 h), if_pos h, UInt8.toNat_add, UInt8.toNat_ofNat', Nat.mod_eq_of_lt hn]
    show (n + 32) % 256 = _
    omega
  · rw [if_neg (mt e.1 h), if_neg h, UInt8.toNat_ofNat', Nat.mod_eq_of_lt hn]

/-- The bytes of s in block g, those ahead of k folded. -/
structure Folds (w wr : World) (g : Nat) (s : ByteArray) (k : Nat) : Prop where
  below : Below w.heap.size w wr
  new : w.heap.size ≤ g
  cells : ∀ j, j < s.size → wr.cell? ⟨g, j, none⟩ = some (.int .u8 (if j < k then lowN (pb s j) else pb s j : Nat))
  free : ∀ j, j < s.size → wr.frozen? ⟨g, j, none⟩ = false

theorem Folds.next {w wr : World} {g : Nat} {s : ByteArray} {k : Nat} (h : Folds w wr g s k) (hk : k < s.size) (he : lowN (pb s k) = pb s k) : Folds w wr g s (k + 1) := by
  refine ⟨h.below, h.new, fun j hj => ?_, h.free⟩
  rw [h.cells j hj]
  by_cases h1 : j < k
  · rw [if_pos h1, if_pos (by omega)]
  · rw [if_neg h1]
    by_cases h2 : j = k
    · subst h2; rw [if_pos (by omega), he]
    · rw [if_neg (by omega)]

theorem Folds.store {w wr : World} {g : Nat} {s : ByteArray} {k : Nat} {z : Int} (h : Folds w wr g s k) (hk : k < s.size) (he : z = (lowN (pb s k) : Nat)) : Folds w (wr.setCell ⟨g, k, none⟩ (.int .u8 z)) g s (k + 1) := by
  refine ⟨h.below.setCell h.new _, h.new, fun j hj => ?_, fun j hj => by rw [World.frozen?_setCell]; exact h.free j hj⟩
  by_cases h2 : j = k
  · subst h2
    rw [World.cell?_setCell_same _ _ _ (h.cells j hj), if_pos (by omega), he]
  · rw [World.cell?_setCell_other _ _ _ _ (by intro e; injection e with _ e2; exact h2 e2.symm), h.cells j hj]
    by_cases h1 : j < k
    · rw [if_pos h1, if_pos (by omega)]
    · rw [if_neg h1, if_neg (by omega)]

theorem bytesRow_at (s : ByteArray) (cap j : Nat) (hj : j < s.size) : (bytesRow s cap)[j]? = some (.int .u8 ((s[j]'hj).toNat : Nat)) := by
  have hj' : j < s.data.size := hj
  unfold bytesRow
  rw [Array.getElem?_append, if_pos (by simpa using hj'), Array.getElem?_map, Array.getElem?_eq_getElem hj']
  rfl

theorem folds_start (s : ByteArray) (w : World) : ∃ c W, (convert 9 52 (.string s)).run Tryd.prog w = .ok (.slice (some ⟨w.heap.size, 0, none⟩) s.size c) W ∧ Folds w W w.heap.size s 0 := by
  refine ⟨_, _, run_bytes_of_string (P := Tryd.prog) w 9 52 5 s Tryd.underlying9 Tryd.underlying52 Tryd.underlying5, ?_, Nat.le_refl _, fun j hj => ?_, fun j hj => ?_⟩
  · exact (below_drewN (Below.refl w.heap.size w) 1).alloc (Nat.le_refl _) _
  · have hh := heap_alloc_new w.drew (.cells (bytesRow s (grownCap w s.size 0 5)) 5 ((bytesRow s (grownCap w s.size 0 5)).size, (bytesRow s (grownCap w s.size 0 5)).size + 1))
    have hh : (w.drew.alloc (.cells (bytesRow s (grownCap w s.size 0 5)) 5 ((bytesRow s (grownCap w s.size 0 5)).size, (bytesRow s (grownCap w s.size 0 5)).size + 1))).heap[w.heap.size]? = _ := hh
    rw [if_neg (by omega), ← pb_at s j hj]
    simp only [World.cell?, hh]
    exact bytesRow_at s _ j hj
  · have hh := heap_alloc_new w.drew (.cells (bytesRow s (grownCap w s.size 0 5)) 5 ((bytesRow s (grownCap w s.size 0 5)).size, (bytesRow s (grownCap w s.size 0 5)).size + 1))
    have hh : (w.drew.alloc (.cells (bytesRow s (grownCap w s.size 0 5)) 5 ((bytesRow s (grownCap w s.size 0 5)).size, (bytesRow s (grownCap w s.size 0 5)).size + 1))).heap[w.heap.size]? = _ := hh
    simp only [World.frozen?, hh]
    have : s.size ≤ (bytesRow s (grownCap w s.size 0 5)).size := by simp [bytesRow]
    simp; omega

theorem fold_text (s : ByteArray) : ∀ j (hj : j < ((bytes s).map low).length), (((bytes s).map low)[j].toNat : Int) = (lowN (pb s j) : Nat) := by
  intro j hj
  rw [List.getElem_map]
  unfold lowN pb
  rw [List.length_map] at hj
  rw [List.getD, List.getElem?_eq_getElem hj]
  simp

theorem Folds.text {w wr : World} {g : Nat} {s : ByteArray} (h : Folds w wr g s s.size) (c : Nat) : (convert 52 9 (.slice (some ⟨g, 0, none⟩) s.size c)).run Tryd.prog wr = .ok (.string ⟨((bytes s).map low).toArray⟩) wr := by
  have := run_convert_bytes_back (P := Tryd.prog) wr 52 9 5 ⟨g, 0, none⟩ c ((bytes s).map low) Tryd.underlying52 Tryd.underlying5 Tryd.underlying9 (fun k hk => by
    rw [Go.WideShapes.add_plain, Nat.zero_add]
    have hk' : k < s.size := by rw [List.length_map, bytes_len] at hk; exact hk
    rw [h.cells k hk', if_pos hk', fold_text s k hk])
  rwa [List.length_map, bytes_len] at this

set_option maxRecDepth 100000 in
set_option maxHeartbeats 2000000 in
theorem fold_wide (s : ByteArray) (w : World) (hs : s.size ≤ 1000000) :
    Calls Tryd.prog 24 #[.string s] w fun e w' => e = .returned (.string ⟨((bytes s).map low).toArray⟩) ∧ Below w.heap.size w w' := by
  obtain ⟨cap, W, hcv, hF⟩ := folds_start s w
  have HF := Lib.hid hF
  obtain ⟨g, hg⟩ : ∃ g, g = w.heap.size := ⟨_, rfl⟩
  rw [← hg] at hcv HF
  clear hF hg
  go_enter Tryd.func24, Tryd.ntmps24
  go_wp2_with fail
  clear hcv
  go_loopw [10, 10] (fun i _ wr => ∃ k : Nat, k ≤ s.size ∧ i = .int .i64 k ∧ Folds w wr g s k) (fun i _ _ => s.size - (RowKit.intOf i).toNat)
  case atStart => exact ⟨0, Nat.zero_le _, rfl, HF.out⟩
  case round =>
    obtain ⟨k, hk, rfl, hF⟩ := hrel
    have HK := Lib.hid hF
    clear HF
    by_cases hlt : k < s.size
    · have c0 := hF.cells k hlt
      have f0 := hF.free k hlt
      rw [if_neg (by omega)] at c0
      have hc8 := pb_lt s k
      have hlo := lowN_eq (pb s k) hc8
      have HN := Lib.hid (fun h => HK.out.next hlt h); have HS := Lib.hid (fun (z : Int) (h : z = (lowN (pb s k) : Nat)) => HK.out.store hlt h)
      obtain ⟨c, hc⟩ : ∃ c, c = pb s k := ⟨_, rfl⟩
      rw [← hc] at c0 hc8 hlo HN HS
      have hlt' : (k : Int) < s.size := by omega
      clear hF hc HK
      by_cases h1 : 65 ≤ c ∧ c ≤ 90
      · rw [if_pos h1] at hlo
        obtain ⟨h1, h2⟩ := h1
        have h1' : (65 : Int) ≤ c := by omega
        have h2' : (c : Int) ≤ 90 := by omega
        have HLO := Lib.hid hlo
        clear hlo
        go_wp2_with fail
        go_roundw
        case rel => exact ⟨k + 1, by omega, by go_num, HS.out _ (by rw [HLO.out]; omega)⟩
        case measure => simp [RowKit.intOf]; omega
      · rw [if_neg h1] at hlo
        have HLO := Lib.hid hlo
        have h2 : decide ((65 : Int) ≤ c) = false ∨ decide ((65 : Int) ≤ c) = true ∧ decide ((c : Int) ≤ 90) = false := by
          by_cases h : (65 : Int) ≤ c
          · exact .inr ⟨decide_eq_true h, decide_eq_false (by omega)⟩
          · exact .inl (decide_eq_false h)
        clear hlo h1
        rcases h2 with h2 | ⟨h2, h3⟩
        · have h2' : (c : Int) < 65 := by simpa using h2
          go_wp2_with fail
          go_roundw
          case rel => exact ⟨k + 1, by omega, by go_num, HN.out HLO.out⟩
          case measure => simp [RowKit.intOf]; omega
        · have h2' : (65 : Int) ≤ c := by simpa using h2
          have h3' : (90 : Int) < c := by simpa using h3
          go_wp2_with fail
          go_roundw
          case rel => exact ⟨k + 1, by omega, by go_num, HN.out HLO.out⟩
          case measure => simp [RowKit.intOf]; omega
    · obtain rfl : k = s.size := by omega
      have htx := HK.out.text cap
      have HB := Lib.hid hF.below
      clear hF
      go_wp2_with fail
      go_ret
      exact ⟨rfl, HB.out⟩
theorem fold_any (s : ByteArray) (w : World) (hs : s.size ≤ 2000) :
    Calls Tryd.prog 24 #[.string s] w fun e w' => e = .returned (.string ⟨((bytes s).map low).toArray⟩) ∧ Below w.heap.size w w' := fold_wide s w (by omega)
end Go.Proofs.YtgopajddloeclaaDoor

namespace Go.Proofs.YtgopajddloeclaaDoor
open Go.RowKit Go.Lib Go.WideShapes

theorem ofNat_pb (s : ByteArray) (j : Nat) : (UInt8.ofNat (pb s j)).toNat = pb s j := by
  rw [UInt8.toNat_ofNat']; exact Nat.mod_eq_of_lt (pb_lt s j)
theorem ofNat_eq (s : ByteArray) (j : Nat) (c : Nat) (hc : c < 256) : UInt8.ofNat (pb s j) = UInt8.ofNat c ↔ pb s j = c := by
  rw [← UInt8.toNat_inj, ofNat_pb, UInt8.toNat_ofNat', Nat.mod_eq_of_lt hc]

theorem escaped_any (n : Nat) (w : World) (hn : n < 256) :
    Calls Tryd.prog 108 #[.int .u8 n] w fun e w' => e = .returned (.int .u8 ((escd (UInt8.ofNat n)).toNat : Nat)) ∧ w = w' := by
  have hv : (escd (UInt8.ofNat n)).toNat = if n = 110 then 10 else if n = 116 then 9 else if n = 114 then 13 else n := by
    have e : ∀ c : Nat, c < 256 → (UInt8.ofNat n = UInt8.ofNat c ↔ n = c) := fun c hc => by rw [← UInt8.toNat_inj, UInt8.toNat_ofNat', UInt8.toNat_ofNat', Nat.mod_eq_of_lt hc, Nat.mod_eq_of_lt hn]
    have e1 : UInt8.ofNat n = 110 ↔ n = 110 := e 110 (by decide)
    have e2 : UInt8.ofNat n = 116 ↔ n = 116 := e 116 (by decide)
    have e3 : UInt8.ofNat n = 114 ↔ n = 114 := e 114 (by decide)
    unfold escd
    by_cases h1 : n = 110
    · rw [if_pos (e1.2 h1), if_pos h1]; rfl
    rw [if_neg (mt e1.1 h1), if_neg h1]
    by_cases h2 : n = 116
    · rw [if_pos (e2.2 h2), if_pos h2]; rfl
    rw [if_neg (mt e2.1 h2), if_neg h2]
    by_cases h3 : n = 114
    · rw [if_pos (e3.2 h3), if_pos h3]; rfl
    rw [if_neg (mt e3.1 h3), if_neg h3, UInt8.toNat_ofNat', Nat.mod_eq_of_lt hn]
  have HV := Lib.hid hv
  clear hv
  by_cases h1 : n = 110
  · subst h1
    go_enter Tryd.func108, Tryd.ntmps108
    go_wp2
    go_ret
    exact ⟨rfl, rfl⟩
  by_cases h2 : n = 116
  · subst h2
    go_enter Tryd.func108, Tryd.ntmps108
    go_wp2
    go_ret
    exact ⟨rfl, rfl⟩
  by_cases h3 : n = 114
  · subst h3
    go_enter Tryd.func108, Tryd.ntmps108
    go_wp2
    go_ret
    exact ⟨rfl, rfl⟩
  have HW := Lib.hid (show (if n = 110 then 10 else if n = 116 then 9 else if n = 114 then 13 else n) = n by rw [if_neg h1, if_neg h2, if_neg h3])
  have a1 : ((n : Int) == 110) = false := by simp; omega
  have a2 : ((n : Int) == 116) = false := by simp; omega
  have a3 : ((n : Int) == 114) = false := by simp; omega
  clear h1 h2 h3
  go_enter Tryd.func108, Tryd.ntmps108
  go_wp2
  go_ret
  exact ⟨by rw [HV.out, HW.out]; rfl, rfl⟩

/-- A peek: the world's draws apart, all is as it was. -/
theorem peek_at (p i k : Nat) (s : ByteArray) (w wr : World) (h : Cur wr p s i) (hg : w.grownBy wr (some p)) (hs : s.size ≤ 2000) (hk : i + k ≤ 100000) :
    Calls Tryd.prog 82 #[.pointer (some ⟨p, 0, none⟩), .int .i64 k] wr fun e w' => e = .returned (.int .u8 (pb s (i + k))) ∧ Cur w' p s i ∧ w.grownBy w' (some p) :=
  (peek_any p i k s wr h hs hk).mono fun _ _ ⟨he, n, hw⟩ => ⟨he, by rw [hw]; exact h, by rw [hw]; exact grow_trans hg (grow_drewN _ _ _)⟩

def inN (n : Nat) : Bool := inw (UInt8.ofNat n)

theorem in_or (s : ByteArray) (j : Nat) : inN (pb s j) = (bwN (pb s j) || dgN (pb s j) || decide (pb s j = 36)) := by
  unfold inN inw bwN dgN
  congr 1
  rw [Bool.eq_iff_iff, beq_iff_eq, decide_eq_true_iff]
  exact ofNat_eq s j 36 (by decide)

theorem while_on {f : UInt8 → Bool} {s : ByteArray} {j : Nat} (hj : j < s.size) (h : f (UInt8.ofNat (pb s j)) = true) : ((bytes s).drop j).dropWhile f = ((bytes s).drop (j + 1)).dropWhile f := by
  rw [drop_cons hj, List.dropWhile_cons_of_pos h]
theorem while_off {f : UInt8 → Bool} {s : ByteArray} {j : Nat} (hj : j < s.size) (h : f (UInt8.ofNat (pb s j)) = false) : ((bytes s).drop j).dropWhile f = (bytes s).drop j := by
  rw [drop_cons hj, List.dropWhile_cons_of_neg (by rw [h]; simp)]
theorem while_end {f : UInt8 → Bool} {s : ByteArray} {j : Nat} (hj : s.size ≤ j) : ((bytes s).drop j).dropWhile f = (bytes s).drop j := by
  rw [List.drop_eq_nil_of_le (by rw [bytes_len]; exact hj)]; rfl

/-- A string is told, and the cursor has gone on to j. -/
abbrev Told (p : Nat) (s : ByteArray) (w : World) (j : Nat) (t : ByteArray) (e : Ending) (w' : World) : Prop := Moved p s w j (.string t) e w'

set_option maxRecDepth 100000 in
set_option maxHeartbeats 2000000 in
theorem word_any (p i : Nat) (s : ByteArray) (w : World) (h : Cur w p s i) (hi : i ≤ s.size) (hs : s.size ≤ 2000) :
    Calls Tryd.prog 85 #[.pointer (some ⟨p, 0, none⟩)] w (Moved p s w (s.size - (((bytes s).drop i).dropWhile inw).length) (.string (s.extract i (s.size - (((bytes s).drop i).dropWhile inw).length)))) := by
  obtain ⟨R, hR⟩ : ∃ R, R = ((bytes s).drop i).dropWhile inw := ⟨_, rfl⟩
  rw [← hR]
  obtain ⟨c0, c1, _⟩ := h.cell
  have H := Lib.hid h; have HR := Lib.hid hR
  have HLL := Lib.hid (bytes_len s)
  clear h hR
  go_enter Tryd.func85, Tryd.ntmps85
  go_wp2_with fail
  clear c0 c1
  go_loopg [8] (s.size - i) (fun g v wr => ∃ j : Nat, i ≤ j ∧ j ≤ s.size ∧ g = s.size - j ∧ Cur wr p s j ∧ w.grownBy wr (some p) ∧ ((bytes s).drop j).dropWhile inw = R)
  case atStart => exact ⟨i, Nat.le_refl _, hi, rfl, H.out, grow_refl _ _, HR.out.symm⟩
  case round =>
    obtain ⟨j, hij, hj, hg, hC, hG, hB⟩ := hrel
    have HC := Lib.hid hC; have HG := Lib.hid hG; have HB := Lib.hid hB; have HGK := Lib.hid hg
    clear hC hG hB hg
    have hpl := pb_lt s j
    have hon : inN (pb s j) = true → j < s.size ∧ ((bytes s).drop (j + 1)).dropWhile inw = R := by
      intro h
      have hlt : j < s.size := by
        by_cases hlt : j < s.size
        · exact hlt
        · rw [pb_out s j (by omega)] at h; exact absurd h (by decide)
      exact ⟨hlt, by rw [← HB.out]; exact (while_on hlt h).symm⟩
    have hoff : inN (pb s j) = false → s.size - R.length = j := by
      intro h
      have e : ((bytes s).drop j).dropWhile inw = (bytes s).drop j := by
        by_cases hlt : j < s.size
        · exact while_off hlt h
        · exact while_end (by omega)
      rw [← HB.out, e, List.length_drop, HLL.out]; omega
    have HIN := Lib.hid (in_or s j)
    obtain ⟨x, hx⟩ : ∃ x, x = pb s j := ⟨_, rfl⟩
    rw [← hx] at hpl HIN hon hoff
    have HON := Lib.hid hon; have HOFF := Lib.hid hoff
    have HP := Lib.hid (show ∀ W : World, Cur W p s j → w.grownBy W (some p) → Calls Tryd.prog 82 #[.pointer (some ⟨p, 0, none⟩), .int .i64 (0 : Nat)] W fun e w' => e = .returned (.int .u8 x) ∧ Cur w' p s j ∧ w.grownBy w' (some p) from fun W h1 h2 => by
      have := peek_at p j 0 s w W h1 h2 hs (by omega)
      rwa [Nat.add_zero, ← hx] at this)
    clear hx hon hoff
    go_wp2_with fail
    refine (HP.out _ HC.out HG.out).mono ?_; rintro e w1 ⟨rfl, hC1, hG1⟩
    have HC1 := Lib.hid hC1; have HG1 := Lib.hid hG1
    obtain ⟨c0, c1, f1⟩ := hC1.cell
    clear hC1 hG1 HC HG
    go_wp2_with fail
    refine (begins_any x _ hpl).mono ?_; rintro e w' ⟨rfl, rfl⟩
    cases hb : bwN x with
    | true =>
      go_wp2_with fail
      go_roundg (s.size - (j + 1))
      case measure => have := HGK.out; have := (HON.out (by rw [HIN.out]; simp [*])).1; omega
      case rel =>
        obtain ⟨b1, b2⟩ := HON.out (by rw [HIN.out]; simp [*])
        obtain ⟨a1, a2⟩ := cur_step (n := 0) (z := (j : Int) + 1) (j := j + 1) HC1.out HG1.out (by omega)
        exact ⟨j + 1, by omega, by omega, rfl, a1, a2, b2⟩
    | false =>
      go_wp2_with fail
      refine (HP.out _ HC1.out HG1.out).mono ?_; rintro e w2 ⟨rfl, hC2, hG2⟩
      have HC2 := Lib.hid hC2; have HG2 := Lib.hid hG2
      clear c0 c1 f1
      obtain ⟨c0, c1, f1⟩ := hC2.cell
      clear hC2 hG2 HC1 HG1
      go_wp2_with fail
      refine (digit_any x _ hpl).mono ?_; rintro e w' ⟨rfl, rfl⟩
      cases hd : dgN x with
      | true =>
        go_wp2_with fail
        go_roundg (s.size - (j + 1))
        case measure => have := HGK.out; have := (HON.out (by rw [HIN.out]; simp [*])).1; omega
        case rel =>
          obtain ⟨b1, b2⟩ := HON.out (by rw [HIN.out]; simp [*])
          obtain ⟨a1, a2⟩ := cur_step (n := 0) (z := (j : Int) + 1) (j := j + 1) HC2.out HG2.out (by omega)
          exact ⟨j + 1, by omega, by omega, rfl, a1, a2, b2⟩
      | false =>
        go_wp2_with fail
        refine (HP.out _ HC2.out HG2.out).mono ?_; rintro e w3 ⟨rfl, hC3, hG3⟩
        have HC3 := Lib.hid hC3; have HG3 := Lib.hid hG3
        clear c0 c1 f1
        obtain ⟨c0, c1, f1⟩ := hC3.cell
        clear hC3 hG3 HC2 HG2
        by_cases h36 : x = 36
        · subst h36
          go_wp2_with fail
          go_roundg (s.size - (j + 1))
          case measure => have := HGK.out; have := (HON.out (by rw [HIN.out]; simp [*])).1; omega
          case rel =>
            obtain ⟨b1, b2⟩ := HON.out (by rw [HIN.out]; simp [*])
            obtain ⟨a1, a2⟩ := cur_step (n := 0) (z := (j : Int) + 1) (j := j + 1) HC3.out HG3.out (by omega)
            exact ⟨j + 1, by omega, by omega, rfl, a1, a2, b2⟩
        · have hz : ((x : Int) == 36) = false := by simp; omega
          have HJ := Lib.hid (HOFF.out (by rw [HIN.out, hb, hd]; simp [h36]))
          clear h36 hb hd HIN HON HOFF
          have q1 : (i : Int) ≤ j := by omega
          have q2 : (j : Int) ≤ s.size := by omega
          go_wp2_with fail
          go_quiet (fail)
          go_wp2_with fail
          go_ret
          rw [HJ.out]
          exact ⟨rfl, HC3.out, grow_trans HG3.out (grow_drewN _ _ _)⟩
end Go.Proofs.YtgopajddloeclaaDoor
