/- Contracts and mathematics: Take, PlainTake, MTextsC. -/
import Derived.Test.YtpijolcklmdjbaaGreatDoorRows
import Derived.Test.YtpijolcklmdjbaaGreatDoorZ27
import Derived.Test.YtpijolcklmdjbaaGreatDoorZ30
namespace Go.Proofs.YtpijolcklmdjbaaGreatDoor
open Go.RowKit Go.Lib

theorem first_err (s : ByteArray) (bare : Bool) (w : World) (hE : ¬ frameE s bare = 0) :
    Calls Tryz.prog 22 #[.string s, .bool bare] w fun e w' => e = .returned (.tuple #[.agg #[.int .u8 0, .string { data := #[] }], .int .i64 0, .int .i64 (frameE s bare)]) ∧ Below w.heap.size w w' := by
  cases bare with
  | true =>
    unfold frameE at hE ⊢
    simp only [headN, if_true, frameN, Nat.sub_self, Nat.zero_add, Bool.true_eq_false, false_and, or_false] at hE ⊢
    by_cases h1 : s.size < 4
    · rw [if_pos h1]; exact first_few_bare s w (by omega)
    rw [if_neg h1] at hE ⊢
    by_cases h2 : num s 0 < 4
    · rw [if_pos h2]; exact first_form_bare s w (by omega) h2
    rw [if_neg h2] at hE ⊢
    by_cases h3 : 10004 < num s 0
    · rw [if_pos h3]; exact first_long_bare s w (by omega) h3
    rw [if_neg h3] at hE ⊢
    by_cases h4 : s.size < num s 0
    · rw [if_pos h4]; exact first_more_bare s w (by omega) (by omega) (by omega) h4
    · rw [if_neg h4] at hE; exact absurd rfl hE
  | false =>
    unfold frameE at hE ⊢
    simp only [headN, Bool.false_eq_true, if_false, frameN, true_and, show 5 - 4 = 1 from rfl] at hE ⊢
    by_cases h1 : s.size < 5
    · rw [if_pos h1]; exact first_few s w h1
    have hx : 0 < (s.extract 0 5).size := by simp; omega
    have ht := first_byte s (by omega) hx
    rw [if_neg h1] at hE ⊢
    by_cases h2 : num s 1 < 4
    · rw [if_pos (Or.inl h2)]; exact first_formN _ s w (by omega) hx ht h2
    by_cases h0 : headT s false = 0
    · rw [if_pos (Or.inr h0)]; exact first_formT s w (by omega) hx (ht.trans h0) (by omega)
    rw [if_neg (fun h => h.elim h2 h0)] at hE ⊢
    by_cases h3 : 10004 < num s 1
    · rw [if_pos h3]; exact first_long _ s w (by omega) hx ht h3 (by omega)
    rw [if_neg h3] at hE ⊢
    by_cases h4 : s.size < 1 + num s 1
    · rw [if_pos h4]; exact first_more _ s w (by omega) hx ht (by omega) (by omega) (by omega) (by omega)
    · rw [if_neg h4] at hE; exact absurd rfl hE

theorem frame_good {s : ByteArray} {bare : Bool} (h : frameE s bare = 0) : headN bare ≤ s.size ∧ 4 ≤ num s (headN bare - 4) ∧ num s (headN bare - 4) ≤ 10004 ∧ frameN s bare ≤ s.size ∧ (bare = false → 0 < headT s bare) := by
  unfold frameE at h
  repeat' split at h
  all_goals first | (exfalso; omega) | skip
  rename_i h1 h2 h3 h4
  refine ⟨by omega, by omega, by omega, by omega, fun hb => ?_⟩
  have : ¬ headT s bare = 0 := fun e => h2 (Or.inr ⟨hb, e⟩)
  omega

theorem first_good (s : ByteArray) (bare : Bool) (w : World) (hE : frameE s bare = 0) :
    Calls Tryz.prog 22 #[.string s, .bool bare] w fun e w' => e = .returned (.tuple #[.agg #[.int .u8 (headT s bare : Nat), .string (frameB s bare)], .int .i64 (frameN s bare : Nat), .int .i64 0]) ∧ Below w.heap.size w w' := by
  obtain ⟨h1, h2, h3, h4, h5⟩ := frame_good hE
  cases bare with
  | true =>
    simp only [headN, if_true, frameN, Nat.sub_self, Nat.zero_add] at h1 h2 h3 h4
    have e1 : frameB s true = (s.extract 0 (num s 0)).extract 4 (num s 0) := by simp only [frameB, headN, if_true, frameN, Nat.sub_self, Nat.zero_add]; exact (cut_cut s 4 _).symm
    have e2 : ((frameN s true : Nat) : Int) = 4 + (num s 0 : Int) - 4 := by simp only [headN, if_true, frameN, Nat.sub_self, Nat.zero_add]; omega
    rw [e1, e2]
    exact first_ok_bare s w h1 h2 h3 h4
  | false =>
    simp only [headN, Bool.false_eq_true, if_false, frameN, show 5 - 4 = 1 from rfl] at h1 h2 h3 h4
    have hx : 0 < (s.extract 0 5).size := by simp; omega
    have ht := first_byte s (by omega) hx
    have e0 : min (5 + num s 1 - 4) s.size = 5 + num s 1 - 4 := by omega
    have e1 : frameB s false = (s.extract 0 (5 + num s 1 - 4)).extract 5 (min (5 + num s 1 - 4) s.size) := by
      rw [e0, cut_cut s 5 _]
      simp only [frameB, headN, Bool.false_eq_true, if_false, frameN, show 5 - 4 = 1 from rfl]
      rw [show 1 + num s 1 = 5 + num s 1 - 4 by omega]
    have e2 : ((frameN s false : Nat) : Int) = 5 + (num s 1 : Int) - 4 := by simp only [headN, Bool.false_eq_true, if_false, frameN, show 5 - 4 = 1 from rfl]; omega
    rw [e1, e2]
    exact first_ok _ s w h1 hx ht h2 h3 (h5 rfl) (by omega)

set_option maxRecDepth 100000 in
set_option maxHeartbeats 800000 in
theorem take_err (s : ByteArray) (bare : Bool) (w : World) (hE : ¬ frameE s bare = 0) :
    Calls Tryz.prog 11 #[.string s, .bool bare] w fun e w' => e = .returned (.tuple #[.agg #[.int .u8 0, .string { data := #[] }], .string { data := #[] }, .int .i64 (frameE s bare)]) ∧ Below w.heap.size w w' := by
  have hne : (frameE s bare != 0) = true := by simpa using hE
  go_enter Tryz.func11, Tryz.ntmps11
  go_wp2_with fail
  refine (first_err s bare _ hE).mono ?_; rintro e w1 ⟨rfl, hb⟩
  obtain ⟨hc, hf, hz⟩ := one_box hb
  go_wp2_with fail
  refine bodyPost_ret (v := .tuple #[.agg #[.int .u8 0, .string { data := #[] }], .string { data := #[] }, .int .i64 (frameE s bare)]) (by simp [results, Tryz.results11, go_sem, hc, hz]) rfl ⟨rfl, ?_⟩
  exact (((((Below.refl _ _).alloc (Nat.le_refl _) _).step hb (by simp)).setCell (Nat.le_refl _) _).setCell (Nat.le_refl _) _).alloc (by simp; omega) _

set_option maxRecDepth 100000 in
set_option maxHeartbeats 800000 in
theorem take_good (s : ByteArray) (bare : Bool) (w : World) (hE : frameE s bare = 0) :
    Calls Tryz.prog 11 #[.string s, .bool bare] w fun e w' => e = .returned (.tuple #[.agg #[.int .u8 (headT s bare : Nat), .string (frameB s bare)], .string (s.extract (frameN s bare) s.size), .int .i64 0]) ∧ Below w.heap.size w w' := by
  have hN := (frame_good hE).2.2.2.1
  go_enter Tryz.func11, Tryz.ntmps11
  go_wp2_with fail
  refine (first_good s bare _ hE).mono ?_; rintro e w1 ⟨rfl, hb⟩
  obtain ⟨hc, hf, hz⟩ := one_box hb
  go_wp2_with fail
  go_region
  go_wp2
  refine bodyPost_ret (v := .tuple #[.agg #[.int .u8 (headT s bare : Nat), .string (frameB s bare)], .string (s.extract (frameN s bare) s.size), .int .i64 0]) (by simp [results, Tryz.results11, go_sem, hc, hz]) rfl ⟨rfl, ?_⟩
  exact ((((((Below.refl _ _).alloc (Nat.le_refl _) _).step hb (by simp)).setCell (Nat.le_refl _) _).setCell (Nat.le_refl _) _).alloc (by simp; omega) _).drew
end Go.Proofs.YtpijolcklmdjbaaGreatDoor

namespace Go.Proofs.YtpijolcklmdjbaaGreatDoor
open Go.Lib Go.RowKit

theorem append_list (a b : ByteArray) : (a ++ b).data.toList = a.data.toList ++ b.data.toList := by simp

theorem append_size (a b : ByteArray) : (a ++ b).size = a.size + b.size := by simp

/-- Is a frame of this type bare? -/
def isBare (t : Int) : Bool := decide (t = 0)

theorem pack_split (t : Int) (l : List UInt8) : ∃ hd : List UInt8, packL t l = hd ++ be4 (l.length + 4) ++ l ∧ hd.length = headN (isBare t) - 4 ∧ (t = 0 → hd = []) ∧ (¬ t = 0 → hd = [UInt8.ofNat t.toNat]) := by
  refine ⟨_, rfl, ?_, fun h => if_pos h, fun h => if_neg h⟩
  by_cases h : t = 0 <;> simp [isBare, headN, h]

theorem num_pack (t : Int) (b : ByteArray) (r : List UInt8) (s : ByteArray) (hb : b.size ≤ 10000) (hs : s.data.toList = packL t b.data.toList ++ r) :
    num s (headN (isBare t) - 4) = b.size + 4 := by
  obtain ⟨hd, h1, h2, _, _⟩ := pack_split t b.data.toList
  unfold num
  rw [hs, h1, ← h2, List.append_assoc, List.append_assoc, List.drop_left, big4_be4 _ (by rw [size_list]; omega), size_list]

theorem frameN_pack (t : Int) (b : ByteArray) (r : List UInt8) (s : ByteArray) (hb : b.size ≤ 10000) (hs : s.data.toList = packL t b.data.toList ++ r) :
    frameN s (isBare t) = (packB t b).size := by
  unfold frameN
  rw [num_pack t b r s hb hs, packB_size]
  by_cases h : t = 0 <;> simp [isBare, headN, h] <;> omega

theorem headT_pack (t : Int) (ht : 0 ≤ t ∧ t < 256) (b : ByteArray) (r : List UInt8) (s : ByteArray) (hs : s.data.toList = packL t b.data.toList ++ r) :
    ((headT s (isBare t) : Nat) : Int) = t := by
  by_cases h : t = 0
  · simp [isBare, h, headT]
  · obtain ⟨hd, h1, _, _, h4⟩ := pack_split t b.data.toList
    have e : isBare t = false := by simp [isBare, h]
    rw [headT, e, if_neg (by simp), hs, h1, h4 h]
    simp
    omega

theorem good_pack (t : Int) (ht : 0 ≤ t ∧ t < 256) (b tail s : ByteArray) (hb : b.size ≤ 10000) (h : s = packB t b ++ tail) :
    frameE s (isBare t) = 0 ∧ ((headT s (isBare t) : Nat) : Int) = t ∧ frameB s (isBare t) = b ∧ s.extract (frameN s (isBare t)) s.size = tail := by
  have hs : s.data.toList = packL t b.data.toList ++ tail.data.toList := by rw [h, append_list, packB_list]
  have hN := frameN_pack t b _ s hb hs
  have hn := num_pack t b _ s hb hs
  have hT := headT_pack t ht b _ s hs
  have hz : s.size = (packB t b).size + tail.size := by rw [h, append_size]
  have hp := packB_size t b
  have hh : headN (isBare t) = if t = 0 then 4 else 5 := by by_cases h0 : t = 0 <;> simp [isBare, headN, h0]
  refine ⟨?_, hT, ?_, ?_⟩
  · unfold frameE
    rw [hn, hN]
    rw [if_neg (by rw [hh, hz, hp]; split <;> omega), if_neg ?_, if_neg (by omega), if_neg (by omega)]
    rintro (h1 | ⟨h1, h2⟩)
    · omega
    · have : ¬ t = 0 := by simpa [isBare] using h1
      omega
  · apply bytes_ext
    obtain ⟨hd, h1, h2, _, _⟩ := pack_split t b.data.toList
    unfold frameB
    have hl : (hd ++ be4 (b.data.toList.length + 4)).length = headN (isBare t) := by
      rw [List.length_append, h2, be4_length, hh]; split <;> omega
    rw [extract_data, hs, h1, List.append_assoc, ← hl, List.drop_left, hl, hN, hp, hh]
    have e : b.size + (if t = 0 then 4 else 5) - (if t = 0 then 4 else 5) = b.data.toList.length := by rw [size_list]; omega
    rw [e, List.take_left]
  · apply bytes_ext
    rw [extract_data, hs, hN, ← packB_list, ← size_list (packB t b), List.drop_left]
    apply List.take_of_length_le
    rw [size_list, size_list]
    omega

theorem num_take (s : ByteArray) (p : ByteArray) (n a : Nat) (h : p.data.toList = s.data.toList.take n) (hn : a + 4 ≤ n) : num p a = num s a := by
  unfold num
  rw [h, List.drop_take, ← big4_take, List.take_take, Nat.min_eq_left (by omega), big4_take]

theorem cut_pack (t : Int) (ht : 0 ≤ t ∧ t < 256) (b : ByteArray) (n : Nat) (hb : b.size ≤ 10000) (hn : n < (packB t b).size) :
    frameE ((packB t b).extract 0 n) (isBare t) = 4 := by
  have hl : ((packB t b).extract 0 n).data.toList = (packB t b).data.toList.take n := by rw [extract_data]; simp
  have hz : ((packB t b).extract 0 n).size = n := by rw [← size_list, hl, List.length_take, size_list]; omega
  have hh : headN (isBare t) = if t = 0 then 4 else 5 := by by_cases h0 : t = 0 <;> simp [isBare, headN, h0]
  have hp := packB_size t b
  unfold frameE
  rw [hz]
  by_cases h1 : n < headN (isBare t)
  · rw [if_pos h1]
  rw [if_neg h1]
  have hnum : num ((packB t b).extract 0 n) (headN (isBare t) - 4) = b.size + 4 := by
    rw [num_take (packB t b) _ n _ hl (by rw [hh] at h1 ⊢; by_cases h0 : t = 0 <;> simp [h0] at h1 ⊢ <;> omega)]
    exact num_pack t b [] (packB t b) hb (by rw [packB_list]; simp)
  have hN : frameN ((packB t b).extract 0 n) (isBare t) = (packB t b).size := by
    unfold frameN; rw [hnum, hp, hh]; split <;> omega
  rw [hnum, hN, if_neg ?_, if_neg (by omega), if_pos hn]
  rintro (h2 | ⟨h2, h3⟩)
  · omega
  · have h0 : ¬ t = 0 := by simpa [isBare] using h2
    have e : ((headT ((packB t b).extract 0 n) (isBare t) : Nat) : Int) = t := by
      refine Eq.trans ?_ (headT_pack t ht b [] (packB t b) (by rw [packB_list]; simp))
      have hc : 0 < n := by rw [hh] at h1; rw [if_neg h0] at h1; omega
      rw [h2]
      unfold headT
      rw [if_neg (by simp), if_neg (by simp), hl]
      obtain ⟨m, rfl⟩ : ∃ m, n = m + 1 := ⟨n - 1, by omega⟩
      cases (packB t b).data.toList with
      | nil => rfl
      | cons x r => rfl
    omega

/-- Two boxes of a caller's own, a third one laid before or behind a call that makes memory: what they hold behind the call. -/
theorem boxes_behind {w w3 w5 : World} {A B : Array Value} {S T : TypeId} (hq : Below (w.alloc (.cells A S)).heap.size (w.alloc (.cells A S)) w3) (hb : Below (w3.alloc (.cells B T)).drew.heap.size (w3.alloc (.cells B T)).drew w5) :
    (∀ i : Nat, w5.cell? ⟨w.heap.size, i, none⟩ = A[i]?) ∧ (∀ i : Nat, w5.cell? ⟨w3.heap.size, i, none⟩ = B[i]?) ∧ Below w.heap.size w w5 ∧ w3.heap.size < w5.heap.size := by
  have hz3 : w.heap.size < w3.heap.size := by have := hq.size; simp at this; omega
  have h1 : Below (w.alloc (.cells A S)).heap.size (w.alloc (.cells A S)) w5 := (hq.alloc (by simp; omega) _).drew.step hb (by simp; omega)
  have h2 : Below (w3.alloc (.cells B T)).heap.size (w3.alloc (.cells B T)) w5 := (Below.refl _ (w3.alloc (.cells B T))).drew.step hb (by simp)
  exact ⟨(one_box h1).1, (one_box h2).1, ((Below.refl _ _).alloc (Nat.le_refl _) _).step h1 (by simp), (one_box h2).2.2⟩

theorem boxes_before {w w3 w5 : World} {A B C : Array Value} {S T U : TypeId} (hq : Below (w.alloc (.cells A S)).heap.size (w.alloc (.cells A S)) w3) (hb : Below ((w3.alloc (.cells B T)).alloc (.cells C U)).drew.heap.size ((w3.alloc (.cells B T)).alloc (.cells C U)).drew w5) :
    (∀ i : Nat, w5.cell? ⟨w.heap.size, i, none⟩ = A[i]?) ∧ (∀ i : Nat, w5.cell? ⟨w3.heap.size, i, none⟩ = B[i]?) ∧ (∀ i : Nat, w5.cell? ⟨w3.heap.size + 1, i, none⟩ = C[i]?) ∧ (∀ i : Nat, w5.frozen? ⟨w3.heap.size + 1, i, none⟩ = false) ∧ Below w.heap.size w w5 ∧ w3.heap.size + 1 < w5.heap.size := by
  have hz3 : w.heap.size < w3.heap.size := by have := hq.size; simp at this; omega
  have h1 : Below (w.alloc (.cells A S)).heap.size (w.alloc (.cells A S)) w5 := ((hq.alloc (by simp; omega) _).alloc (by simp; omega) _).drew.step hb (by simp; omega)
  have h2 : Below (w3.alloc (.cells B T)).heap.size (w3.alloc (.cells B T)) w5 := ((Below.refl _ (w3.alloc (.cells B T))).alloc (Nat.le_refl _) _).drew.step hb (by simp)
  have h3 : Below ((w3.alloc (.cells B T)).alloc (.cells C U)).heap.size ((w3.alloc (.cells B T)).alloc (.cells C U)) w5 := (Below.refl _ ((w3.alloc (.cells B T)).alloc (.cells C U))).drew.step hb (by simp)
  have h4 := one_box h3
  simp only [World.size_alloc] at h4
  exact ⟨(one_box h1).1, (one_box h2).1, h4.1, h4.2.1, ((Below.refl _ _).alloc (Nat.le_refl _) _).step h1 (by simp), h4.2.2⟩
end Go.Proofs.YtpijolcklmdjbaaGreatDoor

namespace Go.Proofs.YtpijolcklmdjbaaGreatDoor
open Go.RowKit Go.Lib Go.WideShapes

theorem take_text (c : Nat) (hc : 0 < c ∧ c < 256) (b : ByteArray) (hb : b.size ≤ 10000) (w : World) :
    Calls Tryz.prog 11 #[.string (packB c b), .bool false] w fun e w' => e = .returned (.tuple #[.agg #[.int .u8 c, .string b], .string { data := #[] }, .int .i64 0]) ∧ Below w.heap.size w w' := by
  have hbare : isBare (c : Int) = false := by unfold isBare; simp; omega
  have h := good_pack (c : Int) (by omega) b ByteArray.empty (packB c b) hb (by simp)
  rw [hbare] at h
  obtain ⟨h1, h2, h3, h4⟩ := h
  have := take_good (packB c b) false w h1
  rw [h2, h3, h4] at this
  exact this

def q1 (s : ByteArray) : ByteArray := if (0 : UInt8) ∈ bytes s then { data := #[] } else packB 81 ⟨(bytes s ++ [0]).toArray⟩
def e1 (s : ByteArray) : Int := if (0 : UInt8) ∈ bytes s then 1 else 0
def q2 (s t : ByteArray) : ByteArray := if (0 : UInt8) ∈ bytes s then { data := #[] } else if (0 : UInt8) ∈ bytes t then { data := #[] } else packB 83 ⟨(bytes s ++ [0] ++ (bytes t ++ [0])).toArray⟩
def e2 (s t : ByteArray) : Int := if (0 : UInt8) ∈ bytes s then 1 else if (0 : UInt8) ∈ bytes t then 1 else 0

theorem text_one (w : World) (s : ByteArray) (hs : s.size ≤ 3000) :
    Calls Tryz.prog 21 #[.bool false, .int .u8 81, .slice (some ⟨w.heap.size, 0, none⟩) 1 1] (w.alloc (.cells #[.string s] 9)) fun e w' => e = .returned (.tuple #[.string (q1 s), .int .i64 (e1 s)]) ∧ Below w.heap.size w w' := by
  have hT : TextsIn (w.alloc (.cells #[.string s] 9)) (.slice (some ⟨w.heap.size, 0, none⟩) 1 1) [bytes s] := by
    refine ⟨_, 1, 1, rfl, rfl, Nat.le_refl _, by omega, .inr ⟨_, 0, rfl, by rw [World.size_alloc]; exact Nat.lt_succ_self _, ?_⟩⟩
    intro i t ht
    match i, ht with
    | 0, ht => obtain rfl := Option.some.inj ht; simp [go_sem, bytes]
  have hl : (bytes s).length ≤ 3000 := by rw [blen]; exact hs
  have hr : room ⟨[bytes s], [], []⟩ ≤ 800000 := by
    unfold room
    simp only [List.map_cons, List.map_nil, List.sum_cons, List.sum_nil, List.length_nil]
    omega
  have h := text_of (w.alloc (.cells #[.string s] 9)) false 81 [bytes s] _ hT hr
  rw [written_one] at h
  refine Calls.mono (show Calls Tryz.prog 21 #[.bool false, .int .u8 81, .slice (some ⟨w.heap.size, 0, none⟩) 1 1] _ _ from h) ?_
  rintro e w' ⟨rfl, hb⟩
  refine ⟨?_, (Below.refl _ _).alloc (Nat.le_refl _) _ |>.trans (hb.mono (by rw [World.size_alloc]; omega))⟩
  unfold q1 e1
  by_cases h0 : (0 : UInt8) ∈ bytes s
  · rw [if_pos h0, if_pos h0, if_pos h0]; rfl
  · rw [if_neg h0, if_neg h0, if_neg h0]
    have hE : encE (some (bytes s ++ [0])) = 0 := if_neg (by rw [List.length_append]; simp only [List.length_cons, List.length_nil]; omega)
    unfold textV
    rw [hE]; rfl

theorem text_two (w : World) (s t : ByteArray) (hs : s.size + t.size ≤ 3000) :
    Calls Tryz.prog 21 #[.bool true, .int .u8 83, .slice (some ⟨w.heap.size, 0, none⟩) 2 2] (w.alloc (.cells #[.string s, .string t] 9)) fun e w' => e = .returned (.tuple #[.string (q2 s t), .int .i64 (e2 s t)]) ∧ Below w.heap.size w w' := by
  have hT : TextsIn (w.alloc (.cells #[.string s, .string t] 9)) (.slice (some ⟨w.heap.size, 0, none⟩) 2 2) [bytes s, bytes t] := by
    refine ⟨_, 2, 2, rfl, rfl, Nat.le_refl _, by omega, .inr ⟨_, 0, rfl, by rw [World.size_alloc]; exact Nat.lt_succ_self _, ?_⟩⟩
    intro i t ht
    match i, ht with
    | 0, ht => obtain rfl := Option.some.inj ht; simp [go_sem, bytes]
    | 1, ht => obtain rfl := Option.some.inj ht; simp [go_sem, bytes]
  have hl : (bytes s).length + (bytes t).length ≤ 3000 := by rw [blen, blen]; exact hs
  have hr : room ⟨[bytes s, bytes t], [], []⟩ ≤ 800000 := by
    unfold room
    simp only [List.map_cons, List.map_nil, List.sum_cons, List.sum_nil, List.length_nil]
    omega
  have h := text_of (w.alloc (.cells #[.string s, .string t] 9)) true 83 [bytes s, bytes t] _ hT hr
  rw [written_two] at h
  refine Calls.mono (show Calls Tryz.prog 21 #[.bool true, .int .u8 83, .slice (some ⟨w.heap.size, 0, none⟩) 2 2] _ _ from h) ?_
  rintro e w' ⟨rfl, hb⟩
  refine ⟨?_, (Below.refl _ _).alloc (Nat.le_refl _) _ |>.trans (hb.mono (by rw [World.size_alloc]; omega))⟩
  unfold q2 e2
  by_cases h0 : (0 : UInt8) ∈ bytes s
  · rw [if_pos h0, if_pos h0, if_pos h0]; rfl
  · rw [if_neg h0, if_neg h0, if_neg h0]
    by_cases h1 : (0 : UInt8) ∈ bytes t
    · rw [if_pos h1, if_pos h1, if_pos h1]; rfl
    · rw [if_neg h1, if_neg h1, if_neg h1]
      have hE : encE (some (bytes s ++ [0] ++ (bytes t ++ [0]))) = 0 := if_neg (by simp only [List.length_append, List.length_cons, List.length_nil]; omega)
      unfold textV
      rw [hE]; rfl
end Go.Proofs.YtpijolcklmdjbaaGreatDoor
