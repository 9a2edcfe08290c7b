/- Plain facts: what a frame stands as is taken as the frame, whatever is behind it; cut short it needs more. No program is named here. -/
import Derived.Test.YtfdffiphlpeegaaPlain
namespace Go.Proofs.Ytfdffiphlpeegaa
open Go.Lib Go.RowKit

theorem append_list (a b : ByteArray) : (a ++ b).data.toList = a.data.toList ++ b.data.toList := by simp

theorem append_size (a b : ByteArray) : (a ++ b).size = a.size + b.size := by simp

/-- Is a frame of this type bare? -/
def isBare (t : Int) : Bool := decide (t = 0)

theorem pack_split (t : Int) (l : List UInt8) : ∃ hd : List UInt8, packL t l = hd ++ be4 (l.length + 4) ++ l ∧ hd.length = headN (isBare t) - 4 ∧ (t = 0 → hd = []) ∧ (¬ t = 0 → hd = [UInt8.ofNat t.toNat]) := by
  refine ⟨_, rfl, ?_, fun h => if_pos h, fun h => if_neg h⟩
  by_cases h : t = 0 <;> simp [isBare, headN, h]

theorem num_pack (t : Int) (b : ByteArray) (r : List UInt8) (s : ByteArray) (hb : b.size ≤ 10000) (hs : s.data.toList = packL t b.data.toList ++ r) :
    num s (headN (isBare t) - 4) = b.size + 4 := by
  obtain ⟨hd, h1, h2, _, _⟩ := pack_split t b.data.toList
  unfold num
  rw [hs, h1, ← h2, List.append_assoc, List.append_assoc, List.drop_left, big4_be4 _ (by rw [size_list]; omega), size_list]

theorem frameN_pack (t : Int) (b : ByteArray) (r : List UInt8) (s : ByteArray) (hb : b.size ≤ 10000) (hs : s.data.toList = packL t b.data.toList ++ r) :
    frameN s (isBare t) = (packB t b).size := by
  unfold frameN
  rw [num_pack t b r s hb hs, packB_size]
  by_cases h : t = 0 <;> simp [isBare, headN, h] <;> omega

theorem headT_pack (t : Int) (ht : 0 ≤ t ∧ t < 256) (b : ByteArray) (r : List UInt8) (s : ByteArray) (hs : s.data.toList = packL t b.data.toList ++ r) :
    ((headT s (isBare t) : Nat) : Int) = t := by
  by_cases h : t = 0
  · simp [isBare, h, headT]
  · obtain ⟨hd, h1, _, _, h4⟩ := pack_split t b.data.toList
    have e : isBare t = false := by simp [isBare, h]
    rw [headT, e, if_neg (by simp), hs, h1, h4 h]
    simp
    omega

theorem good_pack (t : Int) (ht : 0 ≤ t ∧ t < 256) (b tail s : ByteArray) (hb : b.size ≤ 10000) (h : s = packB t b ++ tail) :
    frameE s (isBare t) = 0 ∧ ((headT s (isBare t) : Nat) : Int) = t ∧ frameB s (isBare t) = b ∧ s.extract (frameN s (isBare t)) s.size = tail := by
  have hs : s.data.toList = packL t b.data.toList ++ tail.data.toList := by rw [h, append_list, packB_list]
  have hN := frameN_pack t b _ s hb hs
  have hn := num_pack t b _ s hb hs
  have hT := headT_pack t ht b _ s hs
  have hz : s.size = (packB t b).size + tail.size := by rw [h, append_size]
  have hp := packB_size t b
  have hh : headN (isBare t) = if t = 0 then 4 else 5 := by by_cases h0 : t = 0 <;> simp [isBare, headN, h0]
  refine ⟨?_, hT, ?_, ?_⟩
  · unfold frameE
    rw [hn, hN]
    rw [if_neg (by rw [hh, hz, hp]; split <;> omega), if_neg ?_, if_neg (by omega), if_neg (by omega)]
    rintro (h1 | ⟨h1, h2⟩)
    · omega
    · have : ¬ t = 0 := by simpa [isBare] using h1
      omega
  · apply bytes_ext
    obtain ⟨hd, h1, h2, _, _⟩ := pack_split t b.data.toList
    unfold frameB
    have hl : (hd ++ be4 (b.data.toList.length + 4)).length = headN (isBare t) := by
      rw [List.length_append, h2, be4_length, hh]; split <;> omega
    rw [extract_data, hs, h1, List.append_assoc, ← hl, List.drop_left, hl, hN, hp, hh]
    have e : b.size + (if t = 0 then 4 else 5) - (if t = 0 then 4 else 5) = b.data.toList.length := by rw [size_list]; omega
    rw [e, List.take_left]
  · apply bytes_ext
    rw [extract_data, hs, hN, ← packB_list, ← size_list (packB t b), List.drop_left]
    apply List.take_of_length_le
    rw [size_list, size_list]
    omega

theorem num_take (s : ByteArray) (p : ByteArray) (n a : Nat) (h : p.data.toList = s.data.toList.take n) (hn : a + 4 ≤ n) : num p a = num s a := by
  unfold num
  rw [h, List.drop_take, ← big4_take, List.take_take, Nat.min_eq_left (by omega), big4_take]

theorem cut_pack (t : Int) (ht : 0 ≤ t ∧ t < 256) (b : ByteArray) (n : Nat) (hb : b.size ≤ 10000) (hn : n < (packB t b).size) :
    frameE ((packB t b).extract 0 n) (isBare t) = 4 := by
  have hl : ((packB t b).extract 0 n).data.toList = (packB t b).data.toList.take n := by rw [extract_data]; simp
  have hz : ((packB t b).extract 0 n).size = n := by rw [← size_list, hl, List.length_take, size_list]; omega
  have hh : headN (isBare t) = if t = 0 then 4 else 5 := by by_cases h0 : t = 0 <;> simp [isBare, headN, h0]
  have hp := packB_size t b
  unfold frameE
  rw [hz]
  by_cases h1 : n < headN (isBare t)
  · rw [if_pos h1]
  rw [if_neg h1]
  have hnum : num ((packB t b).extract 0 n) (headN (isBare t) - 4) = b.size + 4 := by
    rw [num_take (packB t b) _ n _ hl (by rw [hh] at h1 ⊢; by_cases h0 : t = 0 <;> simp [h0] at h1 ⊢ <;> omega)]
    exact num_pack t b [] (packB t b) hb (by rw [packB_list]; simp)
  have hN : frameN ((packB t b).extract 0 n) (isBare t) = (packB t b).size := by
    unfold frameN; rw [hnum, hp, hh]; split <;> omega
  rw [hnum, hN, if_neg ?_, if_neg (by omega), if_pos hn]
  rintro (h2 | ⟨h2, h3⟩)
  · omega
  · have h0 : ¬ t = 0 := by simpa [isBare] using h2
    have e : ((headT ((packB t b).extract 0 n) (isBare t) : Nat) : Int) = t := by
      refine Eq.trans ?_ (headT_pack t ht b [] (packB t b) (by rw [packB_list]; simp))
      have hc : 0 < n := by rw [hh] at h1; rw [if_neg h0] at h1; omega
      rw [h2]
      unfold headT
      rw [if_neg (by simp), if_neg (by simp), hl]
      obtain ⟨m, rfl⟩ : ∃ m, n = m + 1 := ⟨n - 1, by omega⟩
      cases (packB t b).data.toList with
      | nil => rfl
      | cons x r => rfl
    omega

/-- Two boxes of a caller's own, a third one laid before or behind a call that makes memory: what they hold behind the call. -/
theorem boxes_behind {w w3 w5 : World} {A B : Array Value} {S T : TypeId} (hq : Below (w.alloc (.cells A S)).heap.size (w.alloc (.cells A S)) w3) (hb : Below (w3.alloc (.cells B T)).drew.heap.size (w3.alloc (.cells B T)).drew w5) :
    (∀ i : Nat, w5.cell? ⟨w.heap.size, i, none⟩ = A[i]?) ∧ (∀ i : Nat, w5.cell? ⟨w3.heap.size, i, none⟩ = B[i]?) ∧ Below w.heap.size w w5 ∧ w3.heap.size < w5.heap.size := by
  have hz3 : w.heap.size < w3.heap.size := by have := hq.size; simp at this; omega
  have h1 : Below (w.alloc (.cells A S)).heap.size (w.alloc (.cells A S)) w5 := (hq.alloc (by simp; omega) _).drew.step hb (by simp; omega)
  have h2 : Below (w3.alloc (.cells B T)).heap.size (w3.alloc (.cells B T)) w5 := (Below.refl _ (w3.alloc (.cells B T))).drew.step hb (by simp)
  exact ⟨(one_box h1).1, (one_box h2).1, ((Below.refl _ _).alloc (Nat.le_refl _) _).step h1 (by simp), (one_box h2).2.2⟩

theorem boxes_before {w w3 w5 : World} {A B C : Array Value} {S T U : TypeId} (hq : Below (w.alloc (.cells A S)).heap.size (w.alloc (.cells A S)) w3) (hb : Below ((w3.alloc (.cells B T)).alloc (.cells C U)).drew.heap.size ((w3.alloc (.cells B T)).alloc (.cells C U)).drew w5) :
    (∀ i : Nat, w5.cell? ⟨w.heap.size, i, none⟩ = A[i]?) ∧ (∀ i : Nat, w5.cell? ⟨w3.heap.size, i, none⟩ = B[i]?) ∧ (∀ i : Nat, w5.cell? ⟨w3.heap.size + 1, i, none⟩ = C[i]?) ∧ (∀ i : Nat, w5.frozen? ⟨w3.heap.size + 1, i, none⟩ = false) ∧ Below w.heap.size w w5 ∧ w3.heap.size + 1 < w5.heap.size := by
  have hz3 : w.heap.size < w3.heap.size := by have := hq.size; simp at this; omega
  have h1 : Below (w.alloc (.cells A S)).heap.size (w.alloc (.cells A S)) w5 := ((hq.alloc (by simp; omega) _).alloc (by simp; omega) _).drew.step hb (by simp; omega)
  have h2 : Below (w3.alloc (.cells B T)).heap.size (w3.alloc (.cells B T)) w5 := ((Below.refl _ (w3.alloc (.cells B T))).alloc (Nat.le_refl _) _).drew.step hb (by simp)
  have h3 : Below ((w3.alloc (.cells B T)).alloc (.cells C U)).heap.size ((w3.alloc (.cells B T)).alloc (.cells C U)) w5 := (Below.refl _ ((w3.alloc (.cells B T)).alloc (.cells C U))).drew.step hb (by simp)
  have h4 := one_box h3
  simp only [World.size_alloc] at h4
  exact ⟨(one_box h1).1, (one_box h2).1, h4.1, h4.2.1, ((Below.refl _ _).alloc (Nat.le_refl _) _).step h1 (by simp), h4.2.2⟩
end Go.Proofs.Ytfdffiphlpeegaa
