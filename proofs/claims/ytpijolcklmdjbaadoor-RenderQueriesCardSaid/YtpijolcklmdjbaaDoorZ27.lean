/- Contracts and mathematics: MTextOf, MTextsM, First, Take, PlainTake, MTextsC, MRM. -/
import Derived.Test.YtpijolcklmdjbaaDoorZ26
import Derived.Test.YtpijolcklmdjbaaDoorRows
import Derived.BigQuiet
import Derived.Deep.QuietTactic
import Derived.RegionTactic
import Derived.Defers
import Derived.Recover
import Derived.WalkLawsBesides
import Derived.WalkSpells
import Derived.Test.YtpijolcklmdjbaaDoorZ21
namespace Go.Proofs.YtpijolcklmdjbaaDoor
open Go.RowKit Go.Lib Go.WideShapes

theorem pack_small (c : UInt8) (s : ByteArray) (w : World) (hs : s.size ≤ 10000) :
    Calls Tryd.prog 27 #[.agg #[.int .u8 (c.toNat : Nat), .string s]] w fun e w' => e = .returned (.tuple #[.string (packB (c.toNat : Nat) s), .int .i64 0]) ∧ Below w.heap.size w w' := by
  by_cases h : c.toNat = 0
  · rw [h]; exact pack_bare s w hs
  · exact pack_type _ s w hs (by omega) (by have := UInt8.toNat_lt c; omega)

def textV (c : UInt8) (r : Option Bs) : Value := .tuple #[if encE r = 0 then .string (packB (c.toNat : Nat) ⟨(r.getD []).toArray⟩) else .string { data := #[] }, .int .i64 (encE r)]

set_option maxRecDepth 100000 in
set_option maxHeartbeats 8000000 in
theorem text_of (w : World) (back : Bool) (c : UInt8) (T : List Bs) (tv : Value) (hT : TextsIn w tv T) (hr : room ⟨T, [], []⟩ ≤ 800000) :
    Calls Tryd.prog 15 #[.bool back, .int .u8 (c.toNat : Nat), tv] w fun e w' => e = .returned (textV c (written back c T [])) ∧ Below w.heap.size w w' := by
  have HF := Lib.hid (encode_any w back c T [] tv (.slice none 0 0) hT ⟨none, 0, 0, rfl, rfl, Nat.le_refl _, by omega, .inl rfl⟩ hr)
  generalize written back c T [] = R at HF ⊢
  obtain ⟨at', nt, ct, rfl, _⟩ := hT
  clear hr
  go_enter Tryd.func15, Tryd.ntmps15
  go_wp2_with fail
  refine HF.out.mono ?_; rintro e w1 ⟨rfl, hB1⟩
  have HB1 := Lib.hid hB1
  clear hB1
  unfold encV
  by_cases he : encE R = 0
  · cases R with
    | none => cases he
    | some B =>
      have hl : (⟨B.toArray⟩ : ByteArray).size ≤ 10000 := by
        rw [bsize]
        by_cases hb : 10000 < B.length
        · have h3 : encE (some B) = 3 := if_pos hb
          rw [h3] at he; cases he
        · omega
      rw [if_pos he, he]
      go_wp2_with fail
      refine (pack_small c _ _ hl).mono ?_; rintro e w2 ⟨rfl, hB2⟩
      have HB2 := Lib.hid hB2
      clear hB2
      go_wp2_with fail
      simp [bodyPost, results, Tryd.results15, go_sem, textV, he]
      exact (HB1.out.alloc (by exact HB1.out.size) _).trans (HB2.out.mono (by rw [World.size_alloc]; exact Nat.le_succ_of_le HB1.out.size))
  · have hne : (encE R == 0) = false := by simpa using he
    rw [if_neg he]
    go_wp2_with fail
    simp [bodyPost, results, Tryd.results15, go_sem, textV, he]
    exact HB1.out.alloc (by exact HB1.out.size) _
end Go.Proofs.YtpijolcklmdjbaaDoor

namespace Go.Proofs.YtpijolcklmdjbaaDoor
open Go.RowKit Go.Lib Go.WideShapes

theorem text_step (t : Bs) (T : List Bs) (N : List Int) (B : Bs) : wText ⟨t :: T, N, B⟩ = if (0 : UInt8) ∈ t then none else some ⟨T, N, B ++ (t ++ [0])⟩ := rfl
theorem written_one (s : Bs) : written false 81 [s] [] = if (0 : UInt8) ∈ s then none else some (s ++ [0]) := by
  show ((wText ⟨[s], [], []⟩).bind (wAll [])).bind wDone = _
  rw [text_step]
  by_cases h : (0 : UInt8) ∈ s
  · rw [if_pos h, if_pos h]; rfl
  · rw [if_neg h, if_neg h]; rfl
theorem written_two (s t : Bs) : written true 83 [s, t] [] = if (0 : UInt8) ∈ s then none else if (0 : UInt8) ∈ t then none else some (s ++ [0] ++ (t ++ [0])) := by
  show ((wText ⟨[s, t], [], []⟩).bind (wAll [115])).bind wDone = _
  rw [text_step]
  by_cases h : (0 : UInt8) ∈ s
  · rw [if_pos h, if_pos h]; rfl
  · rw [if_neg h, if_neg h]
    show ((wText ⟨[t], [], [] ++ (s ++ [0])⟩).bind (wAll [])).bind wDone = _
    rw [text_step]
    by_cases h2 : (0 : UInt8) ∈ t
    · rw [if_pos h2, if_pos h2]; rfl
    · rw [if_neg h2, if_neg h2]; rfl
end Go.Proofs.YtpijolcklmdjbaaDoor

namespace Go.Proofs.YtpijolcklmdjbaaDoor
open Go.RowKit Go.Lib

@[go_sem, simp] theorem setCell_drewNM (w : World) (k : Nat) (a : Addr) (v : Value) : (w.drewN k).setCell a v = (w.setCell a v).drewN k := rfl

/-- The three blocks that the results lie in. -/
def three (w : World) (t : Int) (s : ByteArray) (n e : Int) : World :=
  ((w.alloc (.cells #[.int .u8 t, .string s] 51)).alloc (.cells #[.int .i64 n] 3)).alloc (.cells #[.int .i64 e] 26)

theorem three_below (w : World) (t : Int) (s : ByteArray) (n e : Int) : Below w.heap.size w (three w t s n e) :=
  (((Below.refl _ _).alloc (Nat.le_refl _) _).alloc (by simp) _).alloc (by simp; omega) _

end Go.Proofs.YtpijolcklmdjbaaDoor

namespace Go.Proofs.YtpijolcklmdjbaaDoor
open Go.RowKit Go.Lib

theorem frame_good {s : ByteArray} {bare : Bool} (h : frameE s bare = 0) : headN bare ≤ s.size ∧ 4 ≤ num s (headN bare - 4) ∧ num s (headN bare - 4) ≤ 10004 ∧ frameN s bare ≤ s.size ∧ (bare = false → 0 < headT s bare) := by
  unfold frameE at h
  repeat' split at h
  all_goals first | (exfalso; omega) | skip
  rename_i h1 h2 h3 h4
  refine ⟨by omega, by omega, by omega, by omega, fun hb => ?_⟩
  have : ¬ headT s bare = 0 := fun e => h2 (Or.inr ⟨hb, e⟩)
  omega

end Go.Proofs.YtpijolcklmdjbaaDoor

namespace Go.Proofs.YtpijolcklmdjbaaDoor
open Go.Lib Go.RowKit

theorem append_list (a b : ByteArray) : (a ++ b).data.toList = a.data.toList ++ b.data.toList := by simp

theorem append_size (a b : ByteArray) : (a ++ b).size = a.size + b.size := by simp

/-- Is a frame of this type bare? -/
def isBare (t : Int) : Bool := decide (t = 0)

theorem pack_split (t : Int) (l : List UInt8) : ∃ hd : List UInt8, packL t l = hd ++ be4 (l.length + 4) ++ l ∧ hd.length = headN (isBare t) - 4 ∧ (t = 0 → hd = []) ∧ (¬ t = 0 → hd = [UInt8.ofNat t.toNat]) := by
  refine ⟨_, rfl, ?_, fun h => if_pos h, fun h => if_neg h⟩
  by_cases h : t = 0 <;> simp [isBare, headN, h]

theorem num_pack (t : Int) (b : ByteArray) (r : List UInt8) (s : ByteArray) (hb : b.size ≤ 10000) (hs : s.data.toList = packL t b.data.toList ++ r) :
    num s (headN (isBare t) - 4) = b.size + 4 := by
  obtain ⟨hd, h1, h2, _, _⟩ := pack_split t b.data.toList
  unfold num
  rw [hs, h1, ← h2, List.append_assoc, List.append_assoc, List.drop_left, big4_be4 _ (by rw [size_list]; omega), size_list]

theorem frameN_pack (t : Int) (b : ByteArray) (r : List UInt8) (s : ByteArray) (hb : b.size ≤ 10000) (hs : s.data.toList = packL t b.data.toList ++ r) :
    frameN s (isBare t) = (packB t b).size := by
  unfold frameN
  rw [num_pack t b r s hb hs, packB_size]
  by_cases h : t = 0 <;> simp [isBare, headN, h] <;> omega

theorem headT_pack (t : Int) (ht : 0 ≤ t ∧ t < 256) (b : ByteArray) (r : List UInt8) (s : ByteArray) (hs : s.data.toList = packL t b.data.toList ++ r) :
    ((headT s (isBare t) : Nat) : Int) = t := by
  by_cases h : t = 0
  · simp [isBare, h, headT]
  · obtain ⟨hd, h1, _, _, h4⟩ := pack_split t b.data.toList
    have e : isBare t = false := by simp [isBare, h]
    rw [headT, e, if_neg (by simp), hs, h1, h4 h]
    simp
    omega

theorem good_pack (t : Int) (ht : 0 ≤ t ∧ t < 256) (b tail s : ByteArray) (hb : b.size ≤ 10000) (h : s = packB t b ++ tail) :
    frameE s (isBare t) = 0 ∧ ((headT s (isBare t) : Nat) : Int) = t ∧ frameB s (isBare t) = b ∧ s.extract (frameN s (isBare t)) s.size = tail := by
  have hs : s.data.toList = packL t b.data.toList ++ tail.data.toList := by rw [h, append_list, packB_list]
  have hN := frameN_pack t b _ s hb hs
  have hn := num_pack t b _ s hb hs
  have hT := headT_pack t ht b _ s hs
  have hz : s.size = (packB t b).size + tail.size := by rw [h, append_size]
  have hp := packB_size t b
  have hh : headN (isBare t) = if t = 0 then 4 else 5 := by by_cases h0 : t = 0 <;> simp [isBare, headN, h0]
  refine ⟨?_, hT, ?_, ?_⟩
  · unfold frameE
    rw [hn, hN]
    rw [if_neg (by rw [hh, hz, hp]; split <;> omega), if_neg ?_, if_neg (by omega), if_neg (by omega)]
    rintro (h1 | ⟨h1, h2⟩)
    · omega
    · have : ¬ t = 0 := by simpa [isBare] using h1
      omega
  · apply bytes_ext
    obtain ⟨hd, h1, h2, _, _⟩ := pack_split t b.data.toList
    unfold frameB
    have hl : (hd ++ be4 (b.data.toList.length + 4)).length = headN (isBare t) := by
      rw [List.length_append, h2, be4_length, hh]; split <;> omega
    rw [extract_data, hs, h1, List.append_assoc, ← hl, List.drop_left, hl, hN, hp, hh]
    have e : b.size + (if t = 0 then 4 else 5) - (if t = 0 then 4 else 5) = b.data.toList.length := by rw [size_list]; omega
    rw [e, List.take_left]
  · apply bytes_ext
    rw [extract_data, hs, hN, ← packB_list, ← size_list (packB t b), List.drop_left]
    apply List.take_of_length_le
    rw [size_list, size_list]
    omega

theorem num_take (s : ByteArray) (p : ByteArray) (n a : Nat) (h : p.data.toList = s.data.toList.take n) (hn : a + 4 ≤ n) : num p a = num s a := by
  unfold num
  rw [h, List.drop_take, ← big4_take, List.take_take, Nat.min_eq_left (by omega), big4_take]

theorem cut_pack (t : Int) (ht : 0 ≤ t ∧ t < 256) (b : ByteArray) (n : Nat) (hb : b.size ≤ 10000) (hn : n < (packB t b).size) :
    frameE ((packB t b).extract 0 n) (isBare t) = 4 := by
  have hl : ((packB t b).extract 0 n).data.toList = (packB t b).data.toList.take n := by rw [extract_data]; simp
  have hz : ((packB t b).extract 0 n).size = n := by rw [← size_list, hl, List.length_take, size_list]; omega
  have hh : headN (isBare t) = if t = 0 then 4 else 5 := by by_cases h0 : t = 0 <;> simp [isBare, headN, h0]
  have hp := packB_size t b
  unfold frameE
  rw [hz]
  by_cases h1 : n < headN (isBare t)
  · rw [if_pos h1]
  rw [if_neg h1]
  have hnum : num ((packB t b).extract 0 n) (headN (isBare t) - 4) = b.size + 4 := by
    rw [num_take (packB t b) _ n _ hl (by rw [hh] at h1 ⊢; by_cases h0 : t = 0 <;> simp [h0] at h1 ⊢ <;> omega)]
    exact num_pack t b [] (packB t b) hb (by rw [packB_list]; simp)
  have hN : frameN ((packB t b).extract 0 n) (isBare t) = (packB t b).size := by
    unfold frameN; rw [hnum, hp, hh]; split <;> omega
  rw [hnum, hN, if_neg ?_, if_neg (by omega), if_pos hn]
  rintro (h2 | ⟨h2, h3⟩)
  · omega
  · have h0 : ¬ t = 0 := by simpa [isBare] using h2
    have e : ((headT ((packB t b).extract 0 n) (isBare t) : Nat) : Int) = t := by
      refine Eq.trans ?_ (headT_pack t ht b [] (packB t b) (by rw [packB_list]; simp))
      have hc : 0 < n := by rw [hh] at h1; rw [if_neg h0] at h1; omega
      rw [h2]
      unfold headT
      rw [if_neg (by simp), if_neg (by simp), hl]
      obtain ⟨m, rfl⟩ : ∃ m, n = m + 1 := ⟨n - 1, by omega⟩
      cases (packB t b).data.toList with
      | nil => rfl
      | cons x r => rfl
    omega

/-- Two boxes of a caller's own, a third one laid before or behind a call that makes memory: what they hold behind the call. -/
theorem boxes_behind {w w3 w5 : World} {A B : Array Value} {S T : TypeId} (hq : Below (w.alloc (.cells A S)).heap.size (w.alloc (.cells A S)) w3) (hb : Below (w3.alloc (.cells B T)).drew.heap.size (w3.alloc (.cells B T)).drew w5) :
    (∀ i : Nat, w5.cell? ⟨w.heap.size, i, none⟩ = A[i]?) ∧ (∀ i : Nat, w5.cell? ⟨w3.heap.size, i, none⟩ = B[i]?) ∧ Below w.heap.size w w5 ∧ w3.heap.size < w5.heap.size := by
  have hz3 : w.heap.size < w3.heap.size := by have := hq.size; simp at this; omega
  have h1 : Below (w.alloc (.cells A S)).heap.size (w.alloc (.cells A S)) w5 := (hq.alloc (by simp; omega) _).drew.step hb (by simp; omega)
  have h2 : Below (w3.alloc (.cells B T)).heap.size (w3.alloc (.cells B T)) w5 := (Below.refl _ (w3.alloc (.cells B T))).drew.step hb (by simp)
  exact ⟨(one_box h1).1, (one_box h2).1, ((Below.refl _ _).alloc (Nat.le_refl _) _).step h1 (by simp), (one_box h2).2.2⟩

theorem boxes_before {w w3 w5 : World} {A B C : Array Value} {S T U : TypeId} (hq : Below (w.alloc (.cells A S)).heap.size (w.alloc (.cells A S)) w3) (hb : Below ((w3.alloc (.cells B T)).alloc (.cells C U)).drew.heap.size ((w3.alloc (.cells B T)).alloc (.cells C U)).drew w5) :
    (∀ i : Nat, w5.cell? ⟨w.heap.size, i, none⟩ = A[i]?) ∧ (∀ i : Nat, w5.cell? ⟨w3.heap.size, i, none⟩ = B[i]?) ∧ (∀ i : Nat, w5.cell? ⟨w3.heap.size + 1, i, none⟩ = C[i]?) ∧ (∀ i : Nat, w5.frozen? ⟨w3.heap.size + 1, i, none⟩ = false) ∧ Below w.heap.size w w5 ∧ w3.heap.size + 1 < w5.heap.size := by
  have hz3 : w.heap.size < w3.heap.size := by have := hq.size; simp at this; omega
  have h1 : Below (w.alloc (.cells A S)).heap.size (w.alloc (.cells A S)) w5 := ((hq.alloc (by simp; omega) _).alloc (by simp; omega) _).drew.step hb (by simp; omega)
  have h2 : Below (w3.alloc (.cells B T)).heap.size (w3.alloc (.cells B T)) w5 := ((Below.refl _ (w3.alloc (.cells B T))).alloc (Nat.le_refl _) _).drew.step hb (by simp)
  have h3 : Below ((w3.alloc (.cells B T)).alloc (.cells C U)).heap.size ((w3.alloc (.cells B T)).alloc (.cells C U)) w5 := (Below.refl _ ((w3.alloc (.cells B T)).alloc (.cells C U))).drew.step hb (by simp)
  have h4 := one_box h3
  simp only [World.size_alloc] at h4
  exact ⟨(one_box h1).1, (one_box h2).1, h4.1, h4.2.1, ((Below.refl _ _).alloc (Nat.le_refl _) _).step h1 (by simp), h4.2.2⟩
end Go.Proofs.YtpijolcklmdjbaaDoor

namespace Go.Proofs.YtpijolcklmdjbaaDoor
open Go.RowKit Go.Lib Go.WideShapes

def q1 (s : ByteArray) : ByteArray := if (0 : UInt8) ∈ bytes s then { data := #[] } else packB 81 ⟨(bytes s ++ [0]).toArray⟩
def e1 (s : ByteArray) : Int := if (0 : UInt8) ∈ bytes s then 1 else 0
def q2 (s t : ByteArray) : ByteArray := if (0 : UInt8) ∈ bytes s then { data := #[] } else if (0 : UInt8) ∈ bytes t then { data := #[] } else packB 83 ⟨(bytes s ++ [0] ++ (bytes t ++ [0])).toArray⟩
def e2 (s t : ByteArray) : Int := if (0 : UInt8) ∈ bytes s then 1 else if (0 : UInt8) ∈ bytes t then 1 else 0

theorem text_one (w : World) (s : ByteArray) (hs : s.size ≤ 3000) :
    Calls Tryd.prog 15 #[.bool false, .int .u8 81, .slice (some ⟨w.heap.size, 0, none⟩) 1 1] (w.alloc (.cells #[.string s] 9)) fun e w' => e = .returned (.tuple #[.string (q1 s), .int .i64 (e1 s)]) ∧ Below w.heap.size w w' := by
  have hT : TextsIn (w.alloc (.cells #[.string s] 9)) (.slice (some ⟨w.heap.size, 0, none⟩) 1 1) [bytes s] := by
    refine ⟨_, 1, 1, rfl, rfl, Nat.le_refl _, by omega, .inr ⟨_, 0, rfl, by rw [World.size_alloc]; exact Nat.lt_succ_self _, ?_⟩⟩
    intro i t ht
    match i, ht with
    | 0, ht => obtain rfl := Option.some.inj ht; simp [go_sem, bytes]
  have hl : (bytes s).length ≤ 3000 := by rw [blen]; exact hs
  have hr : room ⟨[bytes s], [], []⟩ ≤ 800000 := by
    unfold room
    simp only [List.map_cons, List.map_nil, List.sum_cons, List.sum_nil, List.length_nil]
    omega
  have h := text_of (w.alloc (.cells #[.string s] 9)) false 81 [bytes s] _ hT hr
  rw [written_one] at h
  refine Calls.mono (show Calls Tryd.prog 15 #[.bool false, .int .u8 81, .slice (some ⟨w.heap.size, 0, none⟩) 1 1] _ _ from h) ?_
  rintro e w' ⟨rfl, hb⟩
  refine ⟨?_, (Below.refl _ _).alloc (Nat.le_refl _) _ |>.trans (hb.mono (by rw [World.size_alloc]; omega))⟩
  unfold q1 e1
  by_cases h0 : (0 : UInt8) ∈ bytes s
  · rw [if_pos h0, if_pos h0, if_pos h0]; rfl
  · rw [if_neg h0, if_neg h0, if_neg h0]
    have hE : encE (some (bytes s ++ [0])) = 0 := if_neg (by rw [List.length_append]; simp only [List.length_cons, List.length_nil]; omega)
    unfold textV
    rw [hE]; rfl

theorem text_two (w : World) (s t : ByteArray) (hs : s.size + t.size ≤ 3000) :
    Calls Tryd.prog 15 #[.bool true, .int .u8 83, .slice (some ⟨w.heap.size, 0, none⟩) 2 2] (w.alloc (.cells #[.string s, .string t] 9)) fun e w' => e = .returned (.tuple #[.string (q2 s t), .int .i64 (e2 s t)]) ∧ Below w.heap.size w w' := by
  have hT : TextsIn (w.alloc (.cells #[.string s, .string t] 9)) (.slice (some ⟨w.heap.size, 0, none⟩) 2 2) [bytes s, bytes t] := by
    refine ⟨_, 2, 2, rfl, rfl, Nat.le_refl _, by omega, .inr ⟨_, 0, rfl, by rw [World.size_alloc]; exact Nat.lt_succ_self _, ?_⟩⟩
    intro i t ht
    match i, ht with
    | 0, ht => obtain rfl := Option.some.inj ht; simp [go_sem, bytes]
    | 1, ht => obtain rfl := Option.some.inj ht; simp [go_sem, bytes]
  have hl : (bytes s).length + (bytes t).length ≤ 3000 := by rw [blen, blen]; exact hs
  have hr : room ⟨[bytes s, bytes t], [], []⟩ ≤ 800000 := by
    unfold room
    simp only [List.map_cons, List.map_nil, List.sum_cons, List.sum_nil, List.length_nil]
    omega
  have h := text_of (w.alloc (.cells #[.string s, .string t] 9)) true 83 [bytes s, bytes t] _ hT hr
  rw [written_two] at h
  refine Calls.mono (show Calls Tryd.prog 15 #[.bool true, .int .u8 83, .slice (some ⟨w.heap.size, 0, none⟩) 2 2] _ _ from h) ?_
  rintro e w' ⟨rfl, hb⟩
  refine ⟨?_, (Below.refl _ _).alloc (Nat.le_refl _) _ |>.trans (hb.mono (by rw [World.size_alloc]; omega))⟩
  unfold q2 e2
  by_cases h0 : (0 : UInt8) ∈ bytes s
  · rw [if_pos h0, if_pos h0, if_pos h0]; rfl
  · rw [if_neg h0, if_neg h0, if_neg h0]
    by_cases h1 : (0 : UInt8) ∈ bytes t
    · rw [if_pos h1, if_pos h1, if_pos h1]; rfl
    · rw [if_neg h1, if_neg h1, if_neg h1]
      have hE : encE (some (bytes s ++ [0] ++ (bytes t ++ [0]))) = 0 := if_neg (by simp only [List.length_append, List.length_cons, List.length_nil]; omega)
      unfold textV
      rw [hE]; rfl
end Go.Proofs.YtpijolcklmdjbaaDoor

namespace Go.Proofs.YtpijolcklmdjbaaDoor

/-- What is left of a body, and the texts and numbers so far. -/
structure RS where
  S : Bs
  T : List Bs
  N : List Int

def unsig : Bs → Nat
  | [] => 0
  | b :: l => b.toNat * 256 ^ l.length + unsig l
theorem unsig_lt : ∀ l : Bs, unsig l < 256 ^ l.length
  | [] => Nat.one_pos
  | b :: l => by
    have h1 := unsig_lt l
    have h2 : b.toNat < 256 := UInt8.toNat_lt b
    have h3 : b.toNat * 256 ^ l.length ≤ 255 * 256 ^ l.length := Nat.mul_le_mul_right _ (by omega)
    rw [unsig, List.length_cons, Nat.pow_succ]
    omega
theorem unsig_snoc : ∀ (l : Bs) (b : UInt8), unsig (l ++ [b]) = unsig l * 256 + b.toNat
  | [], b => by simp [unsig]
  | a :: l, b => by
    rw [List.cons_append, unsig, unsig_snoc l b, unsig, List.length_append, List.length_singleton, Nat.pow_succ, Nat.add_mul, Nat.mul_assoc, Nat.add_assoc]
theorem byteAt_toNat (n : Int) (i : Nat) : ((byteAt n i).toNat : Int) = (n / (256 ^ i : Nat)) % 256 := by
  unfold byteAt
  have h1 := Int.emod_nonneg (n / (256 ^ i : Nat)) (show (256 : Int) ≠ 0 by omega)
  have h2 := Int.emod_lt_of_pos (n / (256 ^ i : Nat)) (show (0 : Int) < 256 by omega)
  rw [UInt8.toNat_ofNat']
  have e : (n / (256 ^ i : Nat) % 256).toNat % 2 ^ 8 = (n / (256 ^ i : Nat) % 256).toNat := Nat.mod_eq_of_lt (by show _ < 256; omega)
  rw [e]
  omega
theorem unsig_be : ∀ (k : Nat) (n : Int), (unsig (be k n) : Int) = n % (256 ^ k : Nat)
  | 0, n => by simp [be, unsig, Int.emod_one]
  | k + 1, n => by
    rw [be, unsig, be_length, Int.natCast_add, Int.natCast_mul, byteAt_toNat, unsig_be k n, Nat.pow_succ]
    generalize hM : (256 ^ k : Nat) = M
    have hM0 : 0 < M := by rw [← hM]; exact Nat.pow_pos (by omega)
    have e1 := Int.emod_add_mul_ediv n (M : Int)
    have e2 := Int.emod_add_mul_ediv (n / (M : Int)) 256
    have r0 := Int.emod_nonneg n (show (M : Int) ≠ 0 by omega)
    have r1 := Int.emod_lt_of_pos n (show (0 : Int) < M by omega)
    have c0 := Int.emod_nonneg (n / (M : Int)) (show (256 : Int) ≠ 0 by omega)
    have c1 := Int.emod_lt_of_pos (n / (M : Int)) (show (0 : Int) < 256 by omega)
    generalize n / (M : Int) % 256 = c at *
    generalize n / (M : Int) / 256 = a at *
    generalize n / (M : Int) = q at *
    generalize n % (M : Int) = r at *
    have hc : c * (M : Int) ≤ 255 * M := Int.mul_le_mul_of_nonneg_right (by omega) (by omega)
    have hc0 : 0 ≤ c * (M : Int) := Int.mul_nonneg c0 (by omega)
    have e3 : n = (c * M + r) + ((M * 256 : Nat) : Int) * a := by
      rw [← e1, ← e2, Int.mul_add, Int.natCast_mul, Int.mul_assoc, Int.mul_comm c]
      show r + ((M : Int) * c + M * (256 * a)) = M * c + r + M * (256 * a)
      omega
    rw [e3, Int.add_mul_emod_self_left]
    exact (Int.emod_eq_of_lt (by omega) (by rw [Int.natCast_mul]; show _ < (M : Int) * 256; omega)).symm
theorem be_unsig : ∀ (l : Bs) (m : Int), be l.length (m * (256 ^ l.length : Nat) + unsig l) = l
  | [], _ => rfl
  | b :: l, m => by
    have hu := unsig_lt l
    have hb : b.toNat < 256 := UInt8.toNat_lt b
    have ih := be_unsig l (m * 256 + b.toNat)
    rw [List.length_cons, be, unsig, Nat.pow_succ]
    generalize hM : (256 ^ l.length : Nat) = M at *
    have hM0 : 0 < M := by rw [← hM]; exact Nat.pow_pos (by omega)
    have e : m * ((M * 256 : Nat) : Int) + ((b.toNat * M + unsig l : Nat) : Int) = (m * 256 + b.toNat) * M + unsig l := by
      rw [Int.natCast_add, Int.natCast_mul, Int.natCast_mul, Int.add_mul, Int.mul_assoc m 256, ← Int.mul_comm (M : Int) 256]
      show m * ((M : Int) * 256) + _ = _
      omega
    rw [e, ih]
    refine congrArg (· :: l) ?_
    apply UInt8.toNat_inj.1
    have := byteAt_toNat ((m * 256 + b.toNat) * (M : Int) + unsig l) l.length
    rw [hM, Int.add_comm, Int.add_mul_ediv_right _ _ (show (M : Int) ≠ 0 by omega), Int.ediv_eq_zero_of_lt (by omega) (by omega)] at this
    rw [← Int.add_comm (unsig l : Int)] 
    omega

/-- A number with its sign. -/
def sgnM (k : Nat) (n : Int) : Int := if ((256 ^ k : Nat) : Int) / 2 ≤ n then n - (256 ^ k : Nat) else n
theorem be_sgn (l : Bs) : be l.length (sgnM l.length (unsig l)) = l := by
  unfold sgnM
  split
  · have := be_unsig l (-1)
    rw [show (-1 : Int) * (256 ^ l.length : Nat) + unsig l = (unsig l : Int) - (256 ^ l.length : Nat) by omega] at this
    exact this
  · have := be_unsig l 0
    rw [Int.zero_mul, Int.zero_add] at this
    exact this
theorem sgn_be2 (n : Int) (h : -32768 ≤ n ∧ n ≤ 32767) : sgnM 2 (unsig (be 2 n)) = n := by
  rw [unsig_be]; unfold sgnM
  show (if (32768 : Int) ≤ n % 65536 then n % 65536 - 65536 else n % 65536) = n
  split <;> omega
theorem sgn_be4 (n : Int) (h : -2147483648 ≤ n ∧ n ≤ 2147483647) : sgnM 4 (unsig (be 4 n)) = n := by
  rw [unsig_be]; unfold sgnM
  show (if (2147483648 : Int) ≤ n % 4294967296 then n % 4294967296 - 4294967296 else n % 4294967296) = n
  split <;> omega
theorem unsig_be1 (n : Int) (h : 0 ≤ n ∧ n ≤ 255) : (unsig (be 1 n) : Int) = n := by
  rw [unsig_be]
  show n % 256 = n
  omega
theorem sgn2_range (l : Bs) (h : l.length = 2) : -32768 ≤ sgnM 2 (unsig l) ∧ sgnM 2 (unsig l) ≤ 32767 := by
  have h2 : (unsig l : Int) < 65536 := by have := unsig_lt l; rw [h] at this; exact Int.ofNat_lt.2 this
  unfold sgnM
  show -32768 ≤ (if (32768 : Int) ≤ unsig l then (unsig l : Int) - 65536 else unsig l) ∧ _
  split <;> constructor <;> (first | omega | (show (if (32768 : Int) ≤ unsig l then (unsig l : Int) - 65536 else unsig l) ≤ 32767; split <;> omega))
theorem sgn4_range (l : Bs) (h : l.length = 4) : -2147483648 ≤ sgnM 4 (unsig l) ∧ sgnM 4 (unsig l) ≤ 2147483647 := by
  have h2 : (unsig l : Int) < 4294967296 := by have := unsig_lt l; rw [h] at this; exact Int.ofNat_lt.2 this
  unfold sgnM
  show -2147483648 ≤ (if (2147483648 : Int) ≤ unsig l then (unsig l : Int) - 4294967296 else unsig l) ∧ (if (2147483648 : Int) ≤ unsig l then (unsig l : Int) - 4294967296 else unsig l) ≤ 2147483647
  split <;> constructor <;> omega
end Go.Proofs.YtpijolcklmdjbaaDoor
