/- What only reads rows of pairs: Right, few, samePairs. -/
import Derived.Test.YtjckfdpkcaloiaaCells
namespace Go.Proofs.Ytjckfdpkcaloiaa
open Go.RowKit Go.Lib

set_option maxHeartbeats 1000000 in
theorem right_any (v : Value) (g : Pairs) (w : World) (h : Holds w v g) :
    Calls Try.prog 12 #[v] w fun e w' => e = .returned (.bool (right g)) ∧ Below w.heap.size w w' := by
  obtain ⟨a, c, rfl⟩ := h.form
  have hlen := h.len
  have H := Lib.hid h
  clear h
  go_enter Try.func12, Try.ntmps12
  go_wp2_with fail
  go_loopw [3, 3] (fun i _ wr => ∃ k : Nat, k ≤ g.length ∧ i = .int .i64 ((k : Int) + 1) ∧ (∀ j, j < k → (hj : j + 1 < g.length) → lt g[j].1 g[j + 1].1 = true) ∧ Below w.heap.size w wr) (fun i _ _ => g.length + 1 - (intOf i).toNat)
  case atStart => exact ⟨0, Nat.zero_le _, rfl, fun j hj => by omega, Below.refl _ _⟩
  case round =>
    obtain ⟨k, hk, rfl, hG, hB⟩ := hrel
    have HG := Lib.hid hG; have HB := Lib.hid hB
    by_cases hlt : k + 1 < g.length
    · obtain ⟨b, off, rfl, hb, hc⟩ := H.out.open (by omega)
      have c0 := (hB.cell (p := ⟨b, off + k * 2, none⟩) hb).trans (hc k (by omega)).1
      have c1 := (hB.cell (p := ⟨b, off + (k + 1) * 2, none⟩) hb).trans (hc (k + 1) hlt).1
      obtain ⟨x, hx⟩ : ∃ x, x = g[k].1 := ⟨_, rfl⟩
      obtain ⟨y, hy⟩ : ∃ y, y = g[k + 1].1 := ⟨_, rfl⟩
      rw [← hx] at c0; rw [← hy] at c1
      have HX := Lib.hid hx; have HY := Lib.hid hy
      clear hc hG hB hx hy
      have h1 : (k : Int) + 1 < g.length := by omega
      go_wp2_with fail
      have hs : IntKind.i64.wrap ((k : Int) + 1 - 1) = (k : Int) := by rw [IntKind.wrap_i64]; omega
      have hb0 : (0 : Int) ≤ (k : Int) + 1 := by omega
      have ht0 : ((k : Int) + 1).toNat = k + 1 := by omega
      have hk0 : k < g.length := by omega
      cases hl : lt x y with
      | true =>
        have HL := Lib.hid hl
        have hl' : Op.bytesLess x.toList y.toList = true := hl
        clear hl
        go_quiet (fail)
        clear hs hb0 ht0
        go_wp2_with fail
        go_roundw
        case rel =>
          refine ⟨k + 1, by omega, by go_num, fun j hj hj2 => ?_, below_drewN HB.out _⟩
          by_cases e : j = k
          · subst e; rw [← HX.out, ← HY.out]; exact HL.out
          · exact HG.out j (by omega) hj2
        case measure => simp [intOf]; omega
      | false =>
        have HL := Lib.hid hl
        have hl' : Op.bytesLess x.toList y.toList = false := hl
        clear hl
        go_quiet (fail)
        clear hs hb0 ht0
        go_wp2_with fail
        go_ret
        exact ⟨by rw [right_not hlt (by rw [← HX.out, ← HY.out]; exact HL.out)]; rfl, below_drewN HB.out _⟩
    · have hge : ¬ (k : Int) + 1 < g.length := by omega
      clear hG hB
      go_wp2_with fail
      go_ret
      exact ⟨by rw [right_at fun j hj => HG.out j (by omega) hj]; rfl, HB.out⟩
set_option maxHeartbeats 1000000 in
theorem rright_any (v : Value) (g : Pairs) (w : World) (h : Holds w v g) :
    Calls Try.prog 13 #[v] w fun e w' => e = .returned (.bool (right g)) ∧ Below w.heap.size w w' := by
  obtain ⟨a, c, rfl⟩ := h.form
  have hlen := h.len
  have H := Lib.hid h
  clear h
  go_enter Try.func13, Try.ntmps13
  go_wp2_with fail
  go_loopw [3, 3] (fun i _ wr => ∃ k : Nat, k ≤ g.length ∧ i = .int .i64 ((k : Int) + 1) ∧ (∀ j, j < k → (hj : j + 1 < g.length) → lt g[j].1 g[j + 1].1 = true) ∧ Below w.heap.size w wr) (fun i _ _ => g.length + 1 - (intOf i).toNat)
  case atStart => exact ⟨0, Nat.zero_le _, rfl, fun j hj => by omega, Below.refl _ _⟩
  case round =>
    obtain ⟨k, hk, rfl, hG, hB⟩ := hrel
    have HG := Lib.hid hG; have HB := Lib.hid hB
    by_cases hlt : k + 1 < g.length
    · obtain ⟨b, off, rfl, hb, hc⟩ := H.out.open (by omega)
      have c0 := (hB.cell (p := ⟨b, off + k * 2, none⟩) hb).trans (hc k (by omega)).1
      have c1 := (hB.cell (p := ⟨b, off + (k + 1) * 2, none⟩) hb).trans (hc (k + 1) hlt).1
      obtain ⟨x, hx⟩ : ∃ x, x = g[k].1 := ⟨_, rfl⟩
      obtain ⟨y, hy⟩ : ∃ y, y = g[k + 1].1 := ⟨_, rfl⟩
      rw [← hx] at c0; rw [← hy] at c1
      have HX := Lib.hid hx; have HY := Lib.hid hy
      clear hc hG hB hx hy
      have h1 : (k : Int) + 1 < g.length := by omega
      go_wp2_with fail
      have hs : IntKind.i64.wrap ((k : Int) + 1 - 1) = (k : Int) := by rw [IntKind.wrap_i64]; omega
      have hb0 : (0 : Int) ≤ (k : Int) + 1 := by omega
      have ht0 : ((k : Int) + 1).toNat = k + 1 := by omega
      have hk0 : k < g.length := by omega
      cases hl : lt x y with
      | true =>
        have HL := Lib.hid hl
        have hl1 : Op.bytesLess y.toList x.toList = false := lt_asymm hl
        have hl2 : (y.toList == x.toList) = false := by rw [eq_lists]; simpa using (lt_ne hl).symm
        clear hl
        go_quiet (fail)
        clear hs hb0 ht0
        go_wp2_with fail
        go_roundw
        case rel =>
          refine ⟨k + 1, by omega, by go_num, fun j hj hj2 => ?_, below_drewN HB.out _⟩
          by_cases e : j = k
          · subst e; rw [← HX.out, ← HY.out]; exact HL.out
          · exact HG.out j (by omega) hj2
        case measure => simp [intOf]; omega
      | false =>
        have HL := Lib.hid hl
        clear hl
        have hl2 : (Op.bytesLess y.toList x.toList || y.toList == x.toList) = true := by
          cases h1 : lt y x with
          | true => rw [show Op.bytesLess y.toList x.toList = true from h1]; rfl
          | false => rw [lt_total HL.out h1]; simp
        go_quiet (fail)
        clear hs hb0 ht0
        go_wp2_with fail
        go_ret
        exact ⟨by rw [right_not hlt (by rw [← HX.out, ← HY.out]; exact HL.out)]; rfl, below_drewN HB.out _⟩
    · have hge : ¬ (k : Int) + 1 < g.length := by omega
      clear hG hB
      go_wp2_with fail
      go_ret
      exact ⟨by rw [right_at fun j hj => HG.out j (by omega) hj]; rfl, HB.out⟩

theorem weight_take {g : Pairs} {k : Nat} (h : k < g.length) : weight (g.take (k + 1)) = weight (g.take k) + 1 + g[k].1.size + g[k].2.size := by
  unfold weight
  rw [List.take_succ_eq_append_getElem h, List.map_append, List.sum_append]
  simp; omega

theorem weight_le (g : Pairs) (k : Nat) : weight (g.take k) ≤ weight g := by
  have e : weight (g.take k) + weight (g.drop k) = weight g := by
    unfold weight
    rw [← List.sum_append, ← List.map_append, List.take_append_drop]
  omega

theorem weight_one {g : Pairs} {p : ByteArray × ByteArray} (h : p ∈ g) : 1 + p.1.size + p.2.size ≤ weight g := by
  induction g with
  | nil => simp at h
  | cons q g ih =>
    have e : weight (q :: g) = 1 + q.1.size + q.2.size + weight g := by simp [weight]
    rcases List.mem_cons.1 h with rfl | h
    · omega
    · have := ih h; omega

theorem weight_len (g : Pairs) : g.length ≤ weight g := by
  induction g with
  | nil => simp
  | cons q g ih =>
    have e : weight (q :: g) = 1 + q.1.size + q.2.size + weight g := by simp [weight]
    rw [List.length_cons]; omega

set_option maxHeartbeats 1000000 in
theorem few_any (v : Value) (g : Pairs) (w : World) (h : Holds w v g) (hz : ∀ p ∈ g, p.1.size ≤ 140737488351232 ∧ p.2.size ≤ 140737488351232) :
    Calls Try.prog 8 #[v] w fun e w' => e = .returned (.bool (decide (weight g < 3000))) ∧ Below w.heap.size w w' := by
  obtain ⟨a, c, rfl⟩ := h.form
  have hlen := h.len
  have H := Lib.hid h
  have HZ := Lib.hid hz
  clear h hz
  go_enter Try.func8, Try.ntmps8
  go_wp2_with fail
  go_loopw [3, 4] (fun n i wr => ∃ k m : Nat, k ≤ g.length ∧ i = .int .i64 k ∧ n = .int .i64 m ∧ m = weight (g.take k) ∧ m ≤ 300000000000000 ∧ Below w.heap.size w wr) (fun _ i _ => g.length - (intOf i).toNat)
  case atStart => exact ⟨0, 0, Nat.zero_le _, rfl, rfl, rfl, by omega, Below.refl _ _⟩
  case round =>
    obtain ⟨k, m, hk, rfl, rfl, hM, hm, hB⟩ := hrel
    have HM := Lib.hid hM; have HB := Lib.hid hB
    clear hM
    by_cases hlt : k < g.length
    · by_cases h3 : m < 3000
      · obtain ⟨b, off, rfl, hb, hc⟩ := H.out.open (by omega)
        have c0 := (hB.cell (p := ⟨b, off + k * 2, none⟩) hb).trans (hc k hlt).1
        have c1 := (hB.cell (p := ⟨b, off + k * 2 + 1, none⟩) hb).trans (hc k hlt).2
        have hzz := HZ.out g[k] (List.getElem_mem hlt)
        have HT := Lib.hid (weight_take hlt)
        obtain ⟨x, hx⟩ : ∃ x, x = g[k].1 := ⟨_, rfl⟩
        obtain ⟨y, hy⟩ : ∃ y, y = g[k].2 := ⟨_, rfl⟩
        rw [← hx] at c0 hzz; rw [← hy] at c1 hzz
        rw [← hx, ← hy] at HT
        obtain ⟨z1, z2⟩ := hzz
        clear hc hB hx hy
        have h3i : (m : Int) < 3000 := by omega
        go_wp2_with fail
        have hlt' : (k : Int) < g.length := by omega
        have s1 : IntKind.i64.wrap ((m : Int) + 1) = (m : Int) + 1 := by rw [IntKind.wrap_i64]; omega
        have s2 : IntKind.i64.wrap ((m : Int) + 1 + x.size) = (m : Int) + 1 + x.size := by rw [IntKind.wrap_i64]; omega
        have s3 : IntKind.i64.wrap ((m : Int) + 1 + x.size + y.size) = (m : Int) + 1 + x.size + y.size := by rw [IntKind.wrap_i64]; omega
        go_quiet (fail)
        clear s1 s2 s3
        go_wp2_with fail
        go_roundw
        case rel => exact ⟨k + 1, m + 1 + x.size + y.size, by omega, by go_num, by go_num, by rw [HT.out, ← HM.out], by omega, below_drewN HB.out _⟩
        case measure => simp [intOf]; omega
      · have h3i : ¬ (m : Int) < 3000 := by omega
        clear hB
        go_wp2_with fail
        go_ret
        have := weight_le g k
        exact ⟨by rw [decide_eq_false (by rw [← HM.out] at this; omega)]; rfl, HB.out⟩
    · obtain rfl : k = g.length := by omega
      have hd : decide (g.length < g.length) = false := by simp
      clear hB
      go_wp2_with fail
      go_ret
      have := HM.out
      rw [List.take_length] at this
      exact ⟨by rw [← this]; simp; omega, HB.out⟩

set_option maxHeartbeats 1000000 in
/-- Rows that are the same. -/
theorem same_any (v u : Value) (g : Pairs) (w : World) (h : Holds w v g) (hu : Holds w u g) :
    Calls Try.prog 14 #[v, u] w fun e w' => e = .returned (.bool true) ∧ Below w.heap.size w w' := by
  obtain ⟨a, c, rfl⟩ := h.form
  obtain ⟨a2, c2, rfl⟩ := hu.form
  have hlen := h.len
  have H := Lib.hid h; have HU := Lib.hid hu
  clear h hu
  go_enter Try.func14, Try.ntmps14
  go_wp2_with fail
  go_loopw [5, 5] (fun i _ wr => ∃ k : Nat, k ≤ g.length ∧ i = .int .i64 k ∧ Below w.heap.size w wr) (fun i _ _ => g.length - (intOf i).toNat)
  case atStart => exact ⟨0, Nat.zero_le _, rfl, Below.refl _ _⟩
  case round =>
    obtain ⟨k, hk, rfl, hB⟩ := hrel
    have HB := Lib.hid hB
    by_cases hlt : k < g.length
    · obtain ⟨b, off, rfl, hb, hc⟩ := H.out.open (by omega)
      obtain ⟨b2, off2, rfl, hb2, hc2⟩ := HU.out.open (by omega)
      have c0 := (hB.cell (p := ⟨b, off + k * 2, none⟩) hb).trans (hc k hlt).1
      have c1 := (hB.cell (p := ⟨b, off + k * 2 + 1, none⟩) hb).trans (hc k hlt).2
      have c3 := (hB.cell (p := ⟨b2, off2 + k * 2, none⟩) hb2).trans (hc2 k hlt).1
      have c4 := (hB.cell (p := ⟨b2, off2 + k * 2 + 1, none⟩) hb2).trans (hc2 k hlt).2
      obtain ⟨x, hx⟩ : ∃ x, x = g[k].1 := ⟨_, rfl⟩
      obtain ⟨y, hy⟩ : ∃ y, y = g[k].2 := ⟨_, rfl⟩
      rw [← hx] at c0 c3; rw [← hy] at c1 c4
      clear hc hc2 hB hx hy
      have hq : (x.toList == x.toList) = true := by simp
      have hq2 : (y.toList == y.toList) = true := by simp
      have hlt' : (k : Int) < g.length := by omega
      go_wp2_with fail
      go_quiet (fail)
      go_wp2_with fail
      go_roundw
      case rel => exact ⟨k + 1, by omega, by go_num, below_drewN HB.out _⟩
      case measure => simp [intOf]; omega
    · obtain rfl : k = g.length := by omega
      clear hB
      go_wp2_with fail
      go_ret
      exact ⟨rfl, HB.out⟩
end Go.Proofs.Ytjckfdpkcaloiaa
