/- Messages of one text and of two: the calls. -/
import Derived.Test.YtfdffiphlpeegaaMTextsM
import Derived.Test.YtfdffiphlpeegaaTake
import Derived.Test.YtfdffiphlpeegaaPlainTake
namespace Go.Proofs.Ytfdffiphlpeegaa
open Go.RowKit Go.Lib Go.WideShapes

theorem take_text (c : Nat) (hc : 0 < c ∧ c < 256) (b : ByteArray) (hb : b.size ≤ 10000) (w : World) :
    Calls Try.prog 17 #[.string (packB c b), .bool false] w fun e w' => e = .returned (.tuple #[.agg #[.int .u8 c, .string b], .string { data := #[] }, .int .i64 0]) ∧ Below w.heap.size w w' := by
  have hbare : isBare (c : Int) = false := by unfold isBare; simp; omega
  have h := good_pack (c : Int) (by omega) b ByteArray.empty (packB c b) hb (by simp)
  rw [hbare] at h
  obtain ⟨h1, h2, h3, h4⟩ := h
  have := take_good (packB c b) false w h1
  rw [h2, h3, h4] at this
  exact this

def q1 (s : ByteArray) : ByteArray := if (0 : UInt8) ∈ bytes s then { data := #[] } else packB 81 ⟨(bytes s ++ [0]).toArray⟩
def e1 (s : ByteArray) : Int := if (0 : UInt8) ∈ bytes s then 1 else 0
def q2 (s t : ByteArray) : ByteArray := if (0 : UInt8) ∈ bytes s then { data := #[] } else if (0 : UInt8) ∈ bytes t then { data := #[] } else packB 83 ⟨(bytes s ++ [0] ++ (bytes t ++ [0])).toArray⟩
def e2 (s t : ByteArray) : Int := if (0 : UInt8) ∈ bytes s then 1 else if (0 : UInt8) ∈ bytes t then 1 else 0

theorem text_one (w : World) (s : ByteArray) (hs : s.size ≤ 3000) :
    Calls Try.prog 11 #[.bool false, .int .u8 81, .slice (some ⟨w.heap.size, 0, none⟩) 1 1] (w.alloc (.cells #[.string s] 9)) fun e w' => e = .returned (.tuple #[.string (q1 s), .int .i64 (e1 s)]) ∧ Below w.heap.size w w' := by
  have hT : TextsIn (w.alloc (.cells #[.string s] 9)) (.slice (some ⟨w.heap.size, 0, none⟩) 1 1) [bytes s] := by
    refine ⟨_, 1, 1, rfl, rfl, Nat.le_refl _, by omega, .inr ⟨_, 0, rfl, by rw [World.size_alloc]; exact Nat.lt_succ_self _, ?_⟩⟩
    intro i t ht
    match i, ht with
    | 0, ht => obtain rfl := Option.some.inj ht; simp [go_sem, bytes]
  have hl : (bytes s).length ≤ 3000 := by rw [blen]; exact hs
  have hr : room ⟨[bytes s], [], []⟩ ≤ 800000 := by
    unfold room
    simp only [List.map_cons, List.map_nil, List.sum_cons, List.sum_nil, List.length_nil]
    omega
  have h := text_of (w.alloc (.cells #[.string s] 9)) false 81 [bytes s] _ hT hr
  rw [written_one] at h
  refine Calls.mono (show Calls Try.prog 11 #[.bool false, .int .u8 81, .slice (some ⟨w.heap.size, 0, none⟩) 1 1] _ _ from h) ?_
  rintro e w' ⟨rfl, hb⟩
  refine ⟨?_, (Below.refl _ _).alloc (Nat.le_refl _) _ |>.trans (hb.mono (by rw [World.size_alloc]; omega))⟩
  unfold q1 e1
  by_cases h0 : (0 : UInt8) ∈ bytes s
  · rw [if_pos h0, if_pos h0, if_pos h0]; rfl
  · rw [if_neg h0, if_neg h0, if_neg h0]
    have hE : encE (some (bytes s ++ [0])) = 0 := if_neg (by rw [List.length_append]; simp only [List.length_cons, List.length_nil]; omega)
    unfold textV
    rw [hE]; rfl

theorem text_two (w : World) (s t : ByteArray) (hs : s.size + t.size ≤ 3000) :
    Calls Try.prog 11 #[.bool true, .int .u8 83, .slice (some ⟨w.heap.size, 0, none⟩) 2 2] (w.alloc (.cells #[.string s, .string t] 9)) fun e w' => e = .returned (.tuple #[.string (q2 s t), .int .i64 (e2 s t)]) ∧ Below w.heap.size w w' := by
  have hT : TextsIn (w.alloc (.cells #[.string s, .string t] 9)) (.slice (some ⟨w.heap.size, 0, none⟩) 2 2) [bytes s, bytes t] := by
    refine ⟨_, 2, 2, rfl, rfl, Nat.le_refl _, by omega, .inr ⟨_, 0, rfl, by rw [World.size_alloc]; exact Nat.lt_succ_self _, ?_⟩⟩
    intro i t ht
    match i, ht with
    | 0, ht => obtain rfl := Option.some.inj ht; simp [go_sem, bytes]
    | 1, ht => obtain rfl := Option.some.inj ht; simp [go_sem, bytes]
  have hl : (bytes s).length + (bytes t).length ≤ 3000 := by rw [blen, blen]; exact hs
  have hr : room ⟨[bytes s, bytes t], [], []⟩ ≤ 800000 := by
    unfold room
    simp only [List.map_cons, List.map_nil, List.sum_cons, List.sum_nil, List.length_nil]
    omega
  have h := text_of (w.alloc (.cells #[.string s, .string t] 9)) true 83 [bytes s, bytes t] _ hT hr
  rw [written_two] at h
  refine Calls.mono (show Calls Try.prog 11 #[.bool true, .int .u8 83, .slice (some ⟨w.heap.size, 0, none⟩) 2 2] _ _ from h) ?_
  rintro e w' ⟨rfl, hb⟩
  refine ⟨?_, (Below.refl _ _).alloc (Nat.le_refl _) _ |>.trans (hb.mono (by rw [World.size_alloc]; omega))⟩
  unfold q2 e2
  by_cases h0 : (0 : UInt8) ∈ bytes s
  · rw [if_pos h0, if_pos h0, if_pos h0]; rfl
  · rw [if_neg h0, if_neg h0, if_neg h0]
    by_cases h1 : (0 : UInt8) ∈ bytes t
    · rw [if_pos h1, if_pos h1, if_pos h1]; rfl
    · rw [if_neg h1, if_neg h1, if_neg h1]
      have hE : encE (some (bytes s ++ [0] ++ (bytes t ++ [0]))) = 0 := if_neg (by simp only [List.length_append, List.length_cons, List.length_nil]; omega)
      unfold textV
      rw [hE]; rfl
end Go.Proofs.Ytfdffiphlpeegaa
