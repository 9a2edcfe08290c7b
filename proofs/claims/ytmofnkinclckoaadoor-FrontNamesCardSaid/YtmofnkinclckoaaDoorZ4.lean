/- Contracts and mathematics: MEnc, Plain, PlainTake, FirstB, ReadB, Steps. -/
import Derived.Test.YtmofnkinclckoaaDoorZ3
import Derived.WalkKit
import Derived.Lib.AppendStr
import Derived.Lib.SlBytesRow
import Derived.Lib.BufferRead
import Derived.Lib.Hide
import Derived.Lib.EndianBits
import Derived.Test.YtmofnkinclckoaaDoorRows
import Derived.BigQuiet
import Derived.Deep.QuietTactic
import Derived.RegionTactic
import Derived.Defers
import Derived.Recover
import Derived.WalkLawsBesides
import Derived.WalkSpells
namespace Go.Proofs.YtmofnkinclckoaaDoor
open Go.RowKit Go.Lib Go.WideShapes

/-- What Encode answers for what is written: the frame's body, or why there is none. -/
def encE (r : Option Bs) : Int := match r with
  | none => 1
  | some B => if 10000 < B.length then 3 else 0
def encV (c : UInt8) (r : Option Bs) : Value := .tuple #[if encE r = 0 then .agg #[.int .u8 (c.toNat : Nat), .string ⟨(r.getD []).toArray⟩] else .agg #[.int .u8 0, .string { data := #[] }], .int .i64 (encE r)]

set_option maxRecDepth 100000 in
set_option maxHeartbeats 8000000 in
theorem encode_any (w : World) (back : Bool) (c : UInt8) (T : List Bs) (N : List Int) (tv nv : Value) (hT : TextsIn w tv T) (hN : NumsIn w nv N) (hr : room ⟨T, N, []⟩ ≤ 800000) :
    Calls Tryd.prog 16 #[.bool back, .agg #[.int .u8 (c.toNat : Nat), tv, nv]] w fun e w' => e = .returned (encV c (written back c T N)) ∧ Below w.heap.size w w' := by
  have HT := Lib.hid hT; have HN := Lib.hid hN
  obtain ⟨at', nt, ct, rfl, _⟩ := hT
  obtain ⟨an, nn, cn, rfl, _⟩ := hN
  obtain ⟨R, hR⟩ : ∃ R, R = written back c T N := ⟨_, rfl⟩
  rw [← hR]
  have HR := Lib.hid hR
  clear hR
  obtain ⟨W0, hW0⟩ : ∃ x, x = ((w.alloc (.cells #[.int .u8 (c.toNat : Nat), .slice at' nt ct, .slice an nn cn] 49)).alloc (.cells #[.int .u8 0, .string { data := #[] }] 45)) := ⟨_, rfl⟩
  have hsz : W0.heap.size = w.heap.size + 1 + 1 := by rw [hW0]; simp
  have HB := Lib.hid (show Below w.heap.size w W0 by rw [hW0]; exact ((Below.refl _ _).alloc (Nat.le_refl _) _).alloc (by simp) _)
  have HK := Lib.hid (show W0.cell? ⟨w.heap.size, 0, none⟩ = some (.int .u8 (c.toNat : Nat)) ∧ W0.cell? ⟨w.heap.size + 1, 0, none⟩ = some (.int .u8 0) ∧ W0.cell? ⟨w.heap.size + 1, 1, none⟩ = some (.string { data := #[] }) ∧ W0.frozen? ⟨w.heap.size + 1, 0, none⟩ = false ∧ W0.frozen? ⟨w.heap.size + 1, 1, none⟩ = false by rw [hW0]; simp [go_sem])
  have HF := Lib.hid (write_any W0 back c T N _ _ (HT.out.mono HB.out) (HN.out.mono HB.out) hr)
  rw [← HR.out] at HF
  have HE := Lib.hid hW0
  have HSZ := Lib.hid hsz
  clear hW0 hsz hr
  go_enter Tryd.func16, Tryd.ntmps16
  go_wp2_with fail
  rw [← HE.out]
  refine HF.out.mono ?_; rintro e w1 ⟨rfl, hB1⟩
  have kk := HK.out
  have b0 : w1.cell? ⟨w.heap.size, 0, none⟩ = some (.int .u8 (c.toNat : Nat)) := (hB1.cell (p := ⟨w.heap.size, 0, none⟩) (by show w.heap.size < _; rw [HSZ.out]; omega)).trans kk.1
  have b1 : w1.cell? ⟨w.heap.size + 1, 0, none⟩ = some (.int .u8 0) := (hB1.cell (p := ⟨w.heap.size + 1, 0, none⟩) (by show w.heap.size + 1 < _; rw [HSZ.out]; omega)).trans kk.2.1
  have b2 : w1.cell? ⟨w.heap.size + 1, 1, none⟩ = some (.string { data := #[] }) := (hB1.cell (p := ⟨w.heap.size + 1, 1, none⟩) (by show w.heap.size + 1 < _; rw [HSZ.out]; omega)).trans kk.2.2.1
  have b3 : w1.frozen? ⟨w.heap.size + 1, 0, none⟩ = false := (hB1.frozen (p := ⟨w.heap.size + 1, 0, none⟩) (by show w.heap.size + 1 < _; rw [HSZ.out]; omega)).trans kk.2.2.2.1
  have b4 : w1.frozen? ⟨w.heap.size + 1, 1, none⟩ = false := (hB1.frozen (p := ⟨w.heap.size + 1, 1, none⟩) (by show w.heap.size + 1 < _; rw [HSZ.out]; omega)).trans kk.2.2.2.2
  have HBB := Lib.hid (HB.out.trans (hB1.mono (by rw [HSZ.out]; omega)))
  clear kk hB1
  unfold writtenV
  cases R with
  | none =>
    go_wp2_with fail
    simp [bodyPost, results, Tryd.results16, go_sem, b1, b2, encV, encE]
    exact (HBB.out.setCell (by show w.heap.size ≤ w.heap.size + 1; omega) _).setCell (by show w.heap.size ≤ w.heap.size + 1; omega) _
  | some B =>
    by_cases hlong : 10000 < B.length
    · have hl' : (10000 : Int) < B.length := by omega
      go_wp2_with fail
      simp [bodyPost, results, Tryd.results16, go_sem, b1, b2, encV, encE, hlong]
      exact (HBB.out.setCell (by show w.heap.size ≤ w.heap.size + 1; omega) _).setCell (by show w.heap.size ≤ w.heap.size + 1; omega) _
    · have hl' : ¬ (10000 : Int) < B.length := by omega
      go_wp2_with fail
      simp [bodyPost, results, Tryd.results16, go_sem, b1, b2, encV, encE, hlong]
      exact (HBB.out.setCell (by show w.heap.size ≤ w.heap.size + 1; omega) _).setCell (by show w.heap.size ≤ w.heap.size + 1; omega) _
end Go.Proofs.YtmofnkinclckoaaDoor

namespace Go.Proofs.YtmofnkinclckoaaDoor
open Go.Lib Go.RowKit

theorem frozen_new (w : World) (A : Array Value) (T : TypeId) (i : Nat) : (w.alloc (.cells A T)).frozen? ⟨w.heap.size, i, none⟩ = false := by
  simp [go_sem]

theorem one_box {w w' : World} {A : Array Value} {T : TypeId} (h : Below (w.alloc (.cells A T)).heap.size (w.alloc (.cells A T)) w') :
    (∀ i : Nat, w'.cell? ⟨w.heap.size, i, none⟩ = A[i]?) ∧ (∀ i : Nat, w'.frozen? ⟨w.heap.size, i, none⟩ = false) ∧ w.heap.size < w'.heap.size :=
  ⟨fun i => (h.cell (p := ⟨w.heap.size, i, none⟩) (by simp)).trans (World.cell?_alloc_new _ _ _ _), fun i => (h.frozen (p := ⟨w.heap.size, i, none⟩) (by simp)).trans (frozen_new _ _ _ _), by have := h.size; simp at this; omega⟩


def cellsOf (l : List UInt8) : List Value := l.map fun b => Value.int .u8 b.toNat

theorem cellsOf_append (a b : List UInt8) : cellsOf (a ++ b) = cellsOf a ++ cellsOf b := by simp [cellsOf]
theorem cellsOf_length (a : List UInt8) : (cellsOf a).length = a.length := by simp [cellsOf]
theorem strCells_eq' (s : ByteArray) : strCells s = cellsOf s.data.toList := rfl
/-- A number as four bytes, the greatest first. -/
def be4 (n : Nat) : List UInt8 := [UInt8.ofNat (n / 16777216), UInt8.ofNat (n / 65536), UInt8.ofNat (n / 256), UInt8.ofNat n]

theorem be4_length (n : Nat) : (be4 n).length = 4 := rfl

theorem be4_cells (n : Nat) (h : n ≤ 10004) : cellsOf (be4 n) = [.int .u8 ((n : Int) / 16777216), .int .u8 ((n : Int) / 65536), .int .u8 ((n : Int) / 256), .int .u8 ((n : Int) % 256)] := by
  have e (k : Nat) : (UInt8.ofNat k).toNat = k % 256 := by simp
  have e1 : ((n / 16777216 % 256 : Nat) : Int) = (n : Int) / 16777216 := by omega
  have e2 : ((n / 65536 % 256 : Nat) : Int) = (n : Int) / 65536 := by omega
  have e3 : ((n / 256 % 256 : Nat) : Int) = (n : Int) / 256 := by omega
  have e4 : ((n % 256 : Nat) : Int) = (n : Int) % 256 := by omega
  simp only [cellsOf, be4, List.map_cons, List.map_nil, e, e1, e2, e3, e4]

/-- A frame as it stands. -/
def packL (t : Int) (l : List UInt8) : List UInt8 := (if t = 0 then [] else [UInt8.ofNat t.toNat]) ++ be4 (l.length + 4) ++ l
def packB (t : Int) (s : ByteArray) : ByteArray := ⟨(packL t s.data.toList).toArray⟩

theorem packB_list (t : Int) (s : ByteArray) : (packB t s).data.toList = packL t s.data.toList := rfl

theorem size_list (s : ByteArray) : s.data.toList.length = s.size := by simp

theorem packB_size (t : Int) (s : ByteArray) : (packB t s).size = s.size + (if t = 0 then 4 else 5) := by
  rw [← size_list, packB_list]
  unfold packL
  split <;> simp [be4] <;> omega

theorem bytes_ext {s t : ByteArray} (h : s.data.toList = t.data.toList) : s = t := ByteArray.ext (Array.toList_inj.1 h)

theorem toList_eq (s : ByteArray) : s.toList = s.data.toList := by
  exact ByteArray.toList_eq s

theorem toList_inj {s t : ByteArray} (h : s.toList = t.toList) : s = t := bytes_ext (by rw [← toList_eq, ← toList_eq]; exact h)

/-- A []byte of the call's own that holds just the bytes of R, turned into a text. -/
theorem conv_str {P : Program} {w : World} {base : Nat} {v : Value} {src e dst : TypeId} (R : ByteArray) (hs : P.underlying src = some (.slice e)) (he : P.underlying e = some (.int .u8)) (hd : P.underlying dst = some .string)
    (h : w.ownsRow base e 1 v R.size (strCells R)) : (convert src dst v).run P w = .ok (.string R) w := by
  obtain ⟨hl, h2⟩ := h
  rcases h2 with ⟨rfl, h0⟩ | ⟨g, cap, cur, rfl, hb, hg, hn, hm, hc, ht⟩
  · have hR : R = ByteArray.empty := by
      apply ByteArray.ext; apply Array.toList_inj.1
      have : R.data.toList.length = 0 := by rw [size_list]; exact h0
      simpa using List.eq_nil_of_length_eq_zero this
    subst hR
    exact run_convert_nil_bytes w src dst e 0 hs he hd
  · refine run_convert_whole w src e dst hs he hd g 0 R ?_ cap
    intro i hi
    rw [Nat.zero_add, cell_of_row w g i cur e (0, 0) hg]
    have hu : (strCells R)[i]? = some (.int .u8 (R[i].toNat : Int)) := by
      simp only [strCells, List.getElem?_map]
      have : R.data.toList[i]? = some R[i] := by
        rw [List.getElem?_eq_getElem (by rw [size_list]; exact hi)]; rfl
      rw [this]; rfl
    rw [← ht, List.getElem?_take] at hu
    split at hu
    · simpa using hu
    · cases hu

/-- Four bytes as a number, the greatest first. -/
def big4 : List UInt8 → Nat
  | a :: b :: c :: d :: _ => a.toNat * 16777216 + b.toNat * 65536 + c.toNat * 256 + d.toNat
  | _ => 0

theorem big4_be4 (n : Nat) (h : n < 4294967296) (l : List UInt8) : big4 (be4 n ++ l) = n := by
  simp [be4, big4]; omega

theorem or_swap (x y : Int) (h1 : 0 ≤ x) (h2 : x < 4294967296) (h3 : 0 ≤ y) (h4 : y < 4294967296) : bits .or .u32 x y = bits .or .u32 y x := by
  rw [u32_or x y h1 h2 h3 h4, u32_or y x h3 h4 h1 h2, Nat.or_comm]

theorem four_or (a b c d : UInt8) : bits .or .u32 (bits .or .u32 (bits .or .u32 ((a.toNat : Int) % 4294967296 * 16777216 % 4294967296) ((b.toNat : Int) % 4294967296 * 65536 % 4294967296)) ((c.toNat : Int) % 4294967296 * 256 % 4294967296)) ((d.toNat : Int) % 4294967296)
    = ((a.toNat * 16777216 + b.toNat * 65536 + c.toNat * 256 + d.toNat : Nat) : Int) := by
  have ha := a.toNat_lt; have hb := b.toNat_lt; have hc := c.toNat_lt; have hd := d.toNat_lt
  have e0 : (a.toNat : Int) % 4294967296 * 16777216 % 4294967296 = a.toNat * 16777216 := by omega
  have e1 : (b.toNat : Int) % 4294967296 * 65536 % 4294967296 = b.toNat * 65536 := by omega
  have e2 : (c.toNat : Int) % 4294967296 * 256 % 4294967296 = c.toNat * 256 := by omega
  have e3 : (d.toNat : Int) % 4294967296 = d.toNat := by omega
  have s1 : bits .or .u32 ((a.toNat : Int) * 16777216) ((b.toNat : Int) * 65536) = (a.toNat : Int) * 16777216 + (b.toNat : Int) * 65536 := by
    rw [or_swap _ _ (by omega) (by omega) (by omega) (by omega), u32_or24 (y := (b.toNat : Int) * 65536) (x := (a.toNat : Int) * 16777216) (by omega) (by omega) (by omega) (by omega) (by omega)]; omega
  have s2 : bits .or .u32 ((a.toNat : Int) * 16777216 + (b.toNat : Int) * 65536) ((c.toNat : Int) * 256) = (a.toNat : Int) * 16777216 + (b.toNat : Int) * 65536 + (c.toNat : Int) * 256 := by
    rw [or_swap _ _ (by omega) (by omega) (by omega) (by omega), u32_or16 (y := (c.toNat : Int) * 256) (x := (a.toNat : Int) * 16777216 + (b.toNat : Int) * 65536) (by omega) (by omega) (by omega) (by omega) (by omega)]; omega
  have s3 : bits .or .u32 ((a.toNat : Int) * 16777216 + (b.toNat : Int) * 65536 + (c.toNat : Int) * 256) (d.toNat : Int) = (a.toNat : Int) * 16777216 + (b.toNat : Int) * 65536 + (c.toNat : Int) * 256 + (d.toNat : Int) := by
    rw [or_swap _ _ (by omega) (by omega) (by omega) (by omega), u32_or8 (y := (d.toNat : Int)) (x := (a.toNat : Int) * 16777216 + (b.toNat : Int) * 65536 + (c.toNat : Int) * 256) (by omega) (by omega) (by omega) (by omega) (by omega)]; omega
  rw [e0, e1, e2, e3, s1, s2, s3]
  omega

theorem bytes_four (s : ByteArray) (h : 4 ≤ s.size) : s.data.toList = s[0] :: s[1] :: s[2] :: s[3] :: s.data.toList.drop 4 := by
  have hl := size_list s
  have e (i : Nat) (hi : i < s.size) : s.data.toList[i]'(by omega) = s[i] := rfl
  have d (i : Nat) (hi : i < s.size) : s.data.toList.drop i = s[i] :: s.data.toList.drop (i + 1) := by
    rw [List.drop_eq_getElem_cons (by omega), e i hi]
  have := d 0 (by omega)
  rw [List.drop_zero] at this
  rw [this, d 1 (by omega), d 2 (by omega), d 3 (by omega)]
  simp

theorem big4_take (l : List UInt8) : big4 (l.take 4) = big4 l := by
  match l with
  | a :: b :: c :: d :: r => simp [big4]
  | [] => rfl
  | [_] => rfl
  | [_, _] => rfl
  | [_, _, _] => rfl

/-- The number that stands at place i. -/
def num (s : ByteArray) (i : Nat) : Nat := big4 (s.data.toList.drop i)

/-- What a frame's beginning says: how long its head is, its type, its bytes in all, its body, and what is wrong. -/
def headN (bare : Bool) : Nat := if bare then 4 else 5
def headT (s : ByteArray) (bare : Bool) : Nat := if bare then 0 else (s.data.toList.headD 0).toNat
def frameN (s : ByteArray) (bare : Bool) : Nat := headN bare - 4 + num s (headN bare - 4)
def frameB (s : ByteArray) (bare : Bool) : ByteArray := s.extract (headN bare) (frameN s bare)
def frameE (s : ByteArray) (bare : Bool) : Int :=
  if s.size < headN bare then 4
  else if num s (headN bare - 4) < 4 ∨ (bare = false ∧ headT s bare = 0) then 2
  else if 10004 < num s (headN bare - 4) then 3
  else if s.size < frameN s bare then 4
  else 0

/-- A piece of the last block but one's follower, known whole, turned into a text. -/
theorem conv_cells {P : Program} {w : World} {src e dst : TypeId} (hs : P.underlying src = some (.slice e)) (he : P.underlying e = some (.int .u8)) (hd : P.underlying dst = some .string) (b o cap : Nat) (l : List UInt8)
    (h : ∀ i, i < l.length → w.cell? ⟨b, o + i, none⟩ = (cellsOf l)[i]?) : (convert src dst (.slice (some ⟨b, o, none⟩) l.length cap)).run P w = .ok (.string ⟨l.toArray⟩) w := by
  refine run_convert_whole w src e dst hs he hd b o ⟨l.toArray⟩ (fun i hi => ?_) cap
  have hi' : i < l.length := by simpa [← size_list] using hi
  rw [h i hi', cellsOf, List.getElem?_map, List.getElem?_eq_getElem hi']
  rfl

end Go.Proofs.YtmofnkinclckoaaDoor

namespace Go.Proofs.YtmofnkinclckoaaDoor
open Go.Lib Go.RowKit

theorem append_list (a b : ByteArray) : (a ++ b).data.toList = a.data.toList ++ b.data.toList := by simp

theorem append_size (a b : ByteArray) : (a ++ b).size = a.size + b.size := by simp

/-- Is a frame of this type bare? -/
def isBare (t : Int) : Bool := decide (t = 0)

theorem pack_split (t : Int) (l : List UInt8) : ∃ hd : List UInt8, packL t l = hd ++ be4 (l.length + 4) ++ l ∧ hd.length = headN (isBare t) - 4 ∧ (t = 0 → hd = []) ∧ (¬ t = 0 → hd = [UInt8.ofNat t.toNat]) := by
  refine ⟨_, rfl, ?_, fun h => if_pos h, fun h => if_neg h⟩
  by_cases h : t = 0 <;> simp [isBare, headN, h]

theorem num_pack (t : Int) (b : ByteArray) (r : List UInt8) (s : ByteArray) (hb : b.size ≤ 10000) (hs : s.data.toList = packL t b.data.toList ++ r) :
    num s (headN (isBare t) - 4) = b.size + 4 := by
  obtain ⟨hd, h1, h2, _, _⟩ := pack_split t b.data.toList
  unfold num
  rw [hs, h1, ← h2, List.append_assoc, List.append_assoc, List.drop_left, big4_be4 _ (by rw [size_list]; omega), size_list]

theorem frameN_pack (t : Int) (b : ByteArray) (r : List UInt8) (s : ByteArray) (hb : b.size ≤ 10000) (hs : s.data.toList = packL t b.data.toList ++ r) :
    frameN s (isBare t) = (packB t b).size := by
  unfold frameN
  rw [num_pack t b r s hb hs, packB_size]
  by_cases h : t = 0 <;> simp [isBare, headN, h] <;> omega

theorem headT_pack (t : Int) (ht : 0 ≤ t ∧ t < 256) (b : ByteArray) (r : List UInt8) (s : ByteArray) (hs : s.data.toList = packL t b.data.toList ++ r) :
    ((headT s (isBare t) : Nat) : Int) = t := by
  by_cases h : t = 0
  · simp [isBare, h, headT]
  · obtain ⟨hd, h1, _, _, h4⟩ := pack_split t b.data.toList
    have e : isBare t = false := by simp [isBare, h]
    rw [headT, e, if_neg (by simp), hs, h1, h4 h]
    simp
    omega

theorem good_pack (t : Int) (ht : 0 ≤ t ∧ t < 256) (b tail s : ByteArray) (hb : b.size ≤ 10000) (h : s = packB t b ++ tail) :
    frameE s (isBare t) = 0 ∧ ((headT s (isBare t) : Nat) : Int) = t ∧ frameB s (isBare t) = b ∧ s.extract (frameN s (isBare t)) s.size = tail := by
  have hs : s.data.toList = packL t b.data.toList ++ tail.data.toList := by rw [h, append_list, packB_list]
  have hN := frameN_pack t b _ s hb hs
  have hn := num_pack t b _ s hb hs
  have hT := headT_pack t ht b _ s hs
  have hz : s.size = (packB t b).size + tail.size := by rw [h, append_size]
  have hp := packB_size t b
  have hh : headN (isBare t) = if t = 0 then 4 else 5 := by by_cases h0 : t = 0 <;> simp [isBare, headN, h0]
  refine ⟨?_, hT, ?_, ?_⟩
  · unfold frameE
    rw [hn, hN]
    rw [if_neg (by rw [hh, hz, hp]; split <;> omega), if_neg ?_, if_neg (by omega), if_neg (by omega)]
    rintro (h1 | ⟨h1, h2⟩)
    · omega
    · have : ¬ t = 0 := by simpa [isBare] using h1
      omega
  · apply bytes_ext
    obtain ⟨hd, h1, h2, _, _⟩ := pack_split t b.data.toList
    unfold frameB
    have hl : (hd ++ be4 (b.data.toList.length + 4)).length = headN (isBare t) := by
      rw [List.length_append, h2, be4_length, hh]; split <;> omega
    rw [extract_data, hs, h1, List.append_assoc, ← hl, List.drop_left, hl, hN, hp, hh]
    have e : b.size + (if t = 0 then 4 else 5) - (if t = 0 then 4 else 5) = b.data.toList.length := by rw [size_list]; omega
    rw [e, List.take_left]
  · apply bytes_ext
    rw [extract_data, hs, hN, ← packB_list, ← size_list (packB t b), List.drop_left]
    apply List.take_of_length_le
    rw [size_list, size_list]
    omega

end Go.Proofs.YtmofnkinclckoaaDoor

namespace Go.Proofs.YtmofnkinclckoaaDoor
open Go.RowKit Go.Lib

theorem aheadB_ok (a : Addr) (len cap : Nat) (n : Int) (w : World) (h0 : 0 ≤ n) (h : n ≤ len) (hc : len ≤ cap) :
    Calls Tryd.prog 33 #[.slice (some a) len cap, .int .i64 n] w fun e w' => e = .returned (.slice (some a) n.toNat cap) ∧ w = w' := by
  obtain ⟨m, rfl⟩ := Int.eq_ofNat_of_zero_le h0
  have h1 : ¬ (len : Int) < m := by omega
  go_enter Tryd.func33, Tryd.ntmps33
  go_wp2
  go_ret
  exact ⟨rfl, rfl⟩

theorem aheadB_few (a : Option Addr) (len cap : Nat) (n : Int) (w : World) (h : (len : Int) < n) :
    Calls Tryd.prog 33 #[.slice a len cap, .int .i64 n] w fun e w' => e = .panicked [{ v := .iface 28 (.int .i64 4), recovered := false }] ∧ w = w' := by
  go_enter Tryd.func33, Tryd.ntmps33
  go_wp2
  exact ⟨rfl, rfl, rfl⟩

theorem numberB_any (g o len cap : Nat) (b0 b1 b2 b3 : UInt8) (w : World) (h : 4 ≤ len)
    (c0 : w.cell? ⟨g, o, none⟩ = some (.int .u8 b0.toNat)) (c1 : w.cell? ⟨g, o + 1, none⟩ = some (.int .u8 b1.toNat)) (c2 : w.cell? ⟨g, o + 2, none⟩ = some (.int .u8 b2.toNat)) (c3 : w.cell? ⟨g, o + 3, none⟩ = some (.int .u8 b3.toNat)) :
    Calls Tryd.prog 34 #[.slice (some ⟨g, o, none⟩) len cap] w fun e w' => e = .returned (.int .u32 (big4 [b0, b1, b2, b3] : Nat)) ∧ ∃ k, w' = w.drewN k := by
  have a0 : 0 < len := by omega
  have a1 : (1 : Int) < len := by omega
  have a2 : (2 : Int) < len := by omega
  have a3 : (3 : Int) < len := by omega
  have HV := Lib.hid (four_or b0 b1 b2 b3)
  go_enter Tryd.func34, Tryd.ntmps34
  go_wp2
  go_quiet (fail)
  go_wp2
  go_ret
  exact ⟨congrArg (fun n => Ending.returned (.int .u32 n)) HV.out, _, rfl⟩
/-! cases -/
theorem catchB_panicking (b : Nat) (x0 x1 x2 x3 : Value) (u : TypeId) (pv : Value) (older : List PanicEntry) (w : World)
    (c0 : w.cell? ⟨b, 0, none⟩ = some x0) (c1 : w.cell? ⟨b, 1, none⟩ = some x1) (c2 : w.cell? ⟨b + 1, 0, none⟩ = some x2) (c3 : w.cell? ⟨b + 1 + 1, 0, none⟩ = some x3)
    (f0 : w.frozen? ⟨b, 0, none⟩ = false) (f1 : w.frozen? ⟨b, 1, none⟩ = false) (f2 : w.frozen? ⟨b + 1, 0, none⟩ = false) (f3 : w.frozen? ⟨b + 1 + 1, 0, none⟩ = false) :
    CallsD Tryd.prog 32 #[.pointer (some ⟨b, 0, none⟩), .pointer (some ⟨b + 1, 0, none⟩), .pointer (some ⟨b + 1 + 1, 0, none⟩)] (.panicking ({ v := .iface u pv, recovered := false } :: older)) w fun e u' w' =>
      e = .returned (.tuple #[]) ∧ u' = .panicking ({ v := .iface u pv, recovered := true } :: older) ∧
        w' = (((w.setCell ⟨b, 0, none⟩ (.int .u8 0)).setCell ⟨b, 1, none⟩ (.string { data := #[] })).setCell ⟨b + 1, 0, none⟩ (.int .i64 0)).setCell ⟨b + 1 + 1, 0, none⟩ (.int .i64 4) := by
  refine callsD_of_wpS Tryd.func32 rfl fun c₀ cs hu => ?_
  apply wpS_seq
  apply wpS_region
  simp [wpOpsS, go_sem, recoverD, hu, Tryd.ntmps32, Exit.thenS]
  refine wpS_cond (t := true) (by simp [Act.eval, Array.replicate]) ?_
  simp only [if_true]
  apply wpS_region
  simp [wpOpsS, go_sem, c0, c1, c2, c3, f0, f1, f2, f3, bodyPostS, results, Tryd.results32]

theorem catchB_idle (b : Nat) (w : World) :
    CallsD Tryd.prog 32 #[.pointer (some ⟨b, 0, none⟩), .pointer (some ⟨b + 1, 0, none⟩), .pointer (some ⟨b + 1 + 1, 0, none⟩)] .returning w fun e u' w' => e = .returned (.tuple #[]) ∧ u' = .returning ∧ w' = w := by
  refine callsD_of_wpS Tryd.func32 rfl fun c₀ cs hu => ?_
  apply wpS_seq
  apply wpS_region
  simp [wpOpsS, go_sem, recoverD, hu, Tryd.ntmps32, Exit.thenS]
  refine wpS_cond (t := false) (by simp [Act.eval, Array.replicate]) ?_
  simp only [Bool.false_eq_true, if_false]
  refine wpS_of_wp (wp_skip ?_)
  cases c₀
  simp_all [bodyPostS, results, Tryd.results32]

@[go_sem, simp] theorem setCell_drewNB (w : World) (k : Nat) (a : Addr) (v : Value) : (w.drewN k).setCell a v = (w.setCell a v).drewN k := rfl

/-- The three blocks that the results lie in. -/
def threeB (w : World) (t : Int) (s : ByteArray) (n e : Int) : World :=
  ((w.alloc (.cells #[.int .u8 t, .string s] 45)).alloc (.cells #[.int .i64 n] 3)).alloc (.cells #[.int .i64 e] 28)

theorem threeB_below (w : World) (t : Int) (s : ByteArray) (n e : Int) : Below w.heap.size w (threeB w t s n e) :=
  (((Below.refl _ _).alloc (Nat.le_refl _) _).alloc (by simp) _).alloc (by simp; omega) _

theorem catchB_three (w : World) (t : Int) (s : ByteArray) (n e : Int) (k : Nat) (u : TypeId) (pv : Value) (older : List PanicEntry) :
    CallsD Tryd.prog 32 #[.pointer (some ⟨w.heap.size, 0, none⟩), .pointer (some ⟨w.heap.size + 1, 0, none⟩), .pointer (some ⟨w.heap.size + 1 + 1, 0, none⟩)] (.panicking ({ v := .iface u pv, recovered := false } :: older)) ((threeB w t s n e).drewN k) fun e u' w' =>
      e = .returned (.tuple #[]) ∧ u' = .panicking ({ v := .iface u pv, recovered := true } :: older) ∧ w' = (threeB w 0 { data := #[] } 0 4).drewN k := by
  refine (catchB_panicking w.heap.size (.int .u8 t) (.string s) (.int .i64 n) (.int .i64 e) u pv older _ ?_ ?_ ?_ ?_ ?_ ?_ ?_ ?_).mono ?_
  all_goals try simp [threeB, go_sem]

theorem threeB_cell (w : World) (t : Int) (s : ByteArray) (n e : Int) (k g o : Nat) (hg : g < w.heap.size) : ((threeB w t s n e).drewN k).cell? ⟨g, o, none⟩ = w.cell? ⟨g, o, none⟩ := by
  show (threeB w t s n e).cell? ⟨g, o, none⟩ = _
  exact (World.cell?_alloc_past _ _ _ (by simp; omega)).trans ((World.cell?_alloc_past _ _ _ (by simp; omega)).trans (World.cell?_alloc_past _ _ _ hg))

/-- The bytes of s lie in block g from place o on. -/
def Lies (w : World) (g o : Nat) (s : ByteArray) : Prop := ∀ i, i < s.size → w.cell? ⟨g, o + i, none⟩ = (cellsOf s.data.toList)[i]?

theorem Lies.at {w : World} {g o : Nat} {s : ByteArray} (h : Lies w g o s) (i : Nat) (hi : i < s.size) : w.cell? ⟨g, o + i, none⟩ = some (.int .u8 (s[i].toNat : Int)) := by
  rw [h i hi, cellsOf, List.getElem?_map, List.getElem?_eq_getElem (by rw [size_list]; exact hi)]
  rfl

theorem num_four (s : ByteArray) (a : Nat) (h : a + 4 ≤ s.size) : big4 [s[a], s[a + 1], s[a + 2], s[a + 3]] = num s a := by
  have hl := size_list s
  have d (i : Nat) (hi : i < s.size) : s.data.toList.drop i = s[i] :: s.data.toList.drop (i + 1) := by
    rw [List.drop_eq_getElem_cons (by omega)]; rfl
  unfold num
  rw [d a (by omega), d (a + 1) (by omega), d (a + 1 + 1) (by omega), d (a + 1 + 1 + 1) (by omega)]
  rfl

/-- The number that stands at place a of what lies there. -/
theorem numberB_at (g o a len cap : Nat) (s : ByteArray) (w : World) (hs : Lies w g o s) (h : a + 4 ≤ s.size) (hl : 4 ≤ len) (W : World) (hW : ∀ i, W.cell? ⟨g, i, none⟩ = w.cell? ⟨g, i, none⟩) :
    Calls Tryd.prog 34 #[.slice (some ⟨g, o + a, none⟩) len cap] W fun e w' => e = .returned (.int .u32 (num s a : Nat)) ∧ ∃ k, w' = W.drewN k := by
  have := numberB_any g (o + a) len cap s[a] s[a + 1] s[a + 2] s[a + 3] W hl ((hW _).trans (hs.at a (by omega))) ((hW _).trans (hs.at (a + 1) (by omega))) ((hW _).trans (hs.at (a + 2) (by omega))) ((hW _).trans (hs.at (a + 3) (by omega)))
  rw [num_four s a h] at this
  exact this

/-- A part of what lies there, turned into a text. -/
theorem convB (g o a n cap : Nat) (s : ByteArray) (w : World) (hs : Lies w g o s) (h : a + n ≤ s.size) (W : World) (hW : ∀ i, W.cell? ⟨g, i, none⟩ = w.cell? ⟨g, i, none⟩) :
    (convert 57 9 (.slice (some ⟨g, o + a, none⟩) n cap)).run Tryd.prog W = .ok (.string (s.extract a (a + n))) W := by
  have hl : (s.extract a (a + n)).data.toList.length = n := by rw [size_list]; simp; omega
  have := conv_cells (P := Tryd.prog) (w := W) Tryd.underlying57 Tryd.underlying5 Tryd.underlying9 g (o + a) cap (s.extract a (a + n)).data.toList (fun i hi => by
    rw [hl] at hi
    rw [hW, Nat.add_assoc, hs (a + i) (by omega), cellsOf, cellsOf, List.getElem?_map, List.getElem?_map, extract_data, List.getElem?_take_of_lt (by omega), List.getElem?_drop])
  rw [hl] at this
  exact this

set_option maxHeartbeats 1000000 in
theorem firstB_few_bare (a : Option Addr) (len cap : Nat) (w : World) (h : len < 4) :
    Calls Tryd.prog 24 #[.slice a len cap, .bool true] w fun e w' => e = .returned (.tuple #[.agg #[.int .u8 0, .string { data := #[] }], .int .i64 0, .int .i64 4]) ∧ Below w.heap.size w w' := by
  have hmf : ∀ (fn : Fn) (first cap : Array Value) (w : World), (Instr.makeFunc fn first cap).run Tryd.prog w = .ok (.func fn first cap) w := fun _ _ _ _ => rfl
  go_enter_defers Tryd.func24, Tryd.ntmps24
  go_wp2_with fail
  refine (aheadB_few _ _ _ 4 _ (by omega)).mono ?_; rintro e w' ⟨rfl, rfl⟩
  go_wp2
  refine leaves_cons (f := 32) (args := #[.pointer (some ⟨w.heap.size, 0, none⟩), .pointer (some ⟨w.heap.size + 1, 0, none⟩), .pointer (some ⟨w.heap.size + 1 + 1, 0, none⟩)]) (by simp) (by simp [go_sem]) ?_
  refine (catchB_three w 0 { data := #[] } 0 0 0 _ _ _).mono ?_
  rintro e u' w'' ⟨rfl, rfl, rfl⟩
  simp [Leaves, settle, results, Tryd.results24, go_sem, threeB]
  exact below_drewN (threeB_below w 0 { data := #[] } 0 4) _

set_option maxHeartbeats 1000000 in
theorem firstB_few (a : Option Addr) (len cap : Nat) (w : World) (h : len < 5) :
    Calls Tryd.prog 24 #[.slice a len cap, .bool false] w fun e w' => e = .returned (.tuple #[.agg #[.int .u8 0, .string { data := #[] }], .int .i64 0, .int .i64 4]) ∧ Below w.heap.size w w' := by
  have hmf : ∀ (fn : Fn) (first cap : Array Value) (w : World), (Instr.makeFunc fn first cap).run Tryd.prog w = .ok (.func fn first cap) w := fun _ _ _ _ => rfl
  go_enter_defers Tryd.func24, Tryd.ntmps24
  go_wp2_with fail
  refine (aheadB_few _ _ _ 5 _ (by omega)).mono ?_; rintro e w' ⟨rfl, rfl⟩
  go_wp2
  refine leaves_cons (f := 32) (args := #[.pointer (some ⟨w.heap.size, 0, none⟩), .pointer (some ⟨w.heap.size + 1, 0, none⟩), .pointer (some ⟨w.heap.size + 1 + 1, 0, none⟩)]) (by simp) (by simp [go_sem]) ?_
  refine (catchB_three w 0 { data := #[] } 0 0 0 _ _ _).mono ?_
  rintro e u' w'' ⟨rfl, rfl, rfl⟩
  simp [Leaves, settle, results, Tryd.results24, go_sem, threeB]
  exact below_drewN (threeB_below w 0 { data := #[] } 0 4) _

set_option maxHeartbeats 1000000 in
theorem firstB_form_bare (g o cap : Nat) (s : ByteArray) (w : World) (hs : Hid (Lies w g o s)) (hg : g < w.heap.size) (hcap : s.size ≤ cap) (h : 4 ≤ s.size) (hn : num s 0 < 4) :
    Calls Tryd.prog 24 #[.slice (some ⟨g, o, none⟩) s.size cap, .bool true] w fun e w' => e = .returned (.tuple #[.agg #[.int .u8 0, .string { data := #[] }], .int .i64 0, .int .i64 2]) ∧ Below w.heap.size w w' := by
  have hmf : ∀ (fn : Fn) (first cap : Array Value) (w : World), (Instr.makeFunc fn first cap).run Tryd.prog w = .ok (.func fn first cap) w := fun _ _ _ _ => rfl
  go_enter_defers Tryd.func24, Tryd.ntmps24
  go_wp2_with fail
  refine (aheadB_ok _ _ _ 4 _ (by omega) (by omega) (by omega)).mono ?_; rintro e w' ⟨rfl, rfl⟩
  go_wp2_with (go_at_call 34; refine (numberB_at g o 0 _ _ s w hs.out (by omega) (by omega) _ (by intro i; exact threeB_cell w 0 { data := #[] } 0 0 0 g i hg)).mono ?_; rintro e w' ⟨rfl, k, rfl⟩)
  refine leaves_cons (f := 32) (args := #[.pointer (some ⟨w.heap.size, 0, none⟩), .pointer (some ⟨w.heap.size + 1, 0, none⟩), .pointer (some ⟨w.heap.size + 1 + 1, 0, none⟩)]) (by simp) (by simp [go_sem]) ?_
  refine (catchB_idle w.heap.size _).mono ?_
  rintro e u' w'' ⟨rfl, rfl, rfl⟩
  simp [Leaves, settle, results, Tryd.results24, go_sem]
  exact below_drewN (threeB_below w 0 { data := #[] } 0 2) _

set_option maxHeartbeats 1000000 in
theorem firstB_long_bare (g o cap : Nat) (s : ByteArray) (w : World) (hs : Hid (Lies w g o s)) (hg : g < w.heap.size) (hcap : s.size ≤ cap) (h : 4 ≤ s.size) (hn : 10004 < num s 0) :
    Calls Tryd.prog 24 #[.slice (some ⟨g, o, none⟩) s.size cap, .bool true] w fun e w' => e = .returned (.tuple #[.agg #[.int .u8 0, .string { data := #[] }], .int .i64 0, .int .i64 3]) ∧ Below w.heap.size w w' := by
  have hmf : ∀ (fn : Fn) (first cap : Array Value) (w : World), (Instr.makeFunc fn first cap).run Tryd.prog w = .ok (.func fn first cap) w := fun _ _ _ _ => rfl
  go_enter_defers Tryd.func24, Tryd.ntmps24
  go_wp2_with fail
  refine (aheadB_ok _ _ _ 4 _ (by omega) (by omega) (by omega)).mono ?_; rintro e w' ⟨rfl, rfl⟩
  go_wp2_with (go_at_call 34; refine (numberB_at g o 0 _ _ s w hs.out (by omega) (by omega) _ (by intro i; exact threeB_cell w 0 { data := #[] } 0 0 0 g i hg)).mono ?_; rintro e w' ⟨rfl, k, rfl⟩)
  refine leaves_cons (f := 32) (args := #[.pointer (some ⟨w.heap.size, 0, none⟩), .pointer (some ⟨w.heap.size + 1, 0, none⟩), .pointer (some ⟨w.heap.size + 1 + 1, 0, none⟩)]) (by simp) (by simp [go_sem]) ?_
  refine (catchB_idle w.heap.size _).mono ?_
  rintro e u' w'' ⟨rfl, rfl, rfl⟩
  simp [Leaves, settle, results, Tryd.results24, go_sem]
  exact below_drewN (threeB_below w 0 { data := #[] } 0 3) _

set_option maxHeartbeats 1000000 in
theorem firstB_more_bare (g o cap : Nat) (s : ByteArray) (w : World) (hs : Hid (Lies w g o s)) (hg : g < w.heap.size) (hcap : s.size ≤ cap) (h : 4 ≤ s.size) (hn : 4 ≤ num s 0) (hn2 : num s 0 ≤ 10004) (hm : s.size < num s 0) :
    Calls Tryd.prog 24 #[.slice (some ⟨g, o, none⟩) s.size cap, .bool true] w fun e w' => e = .returned (.tuple #[.agg #[.int .u8 0, .string { data := #[] }], .int .i64 0, .int .i64 4]) ∧ Below w.heap.size w w' := by
  have hmf : ∀ (fn : Fn) (first cap : Array Value) (w : World), (Instr.makeFunc fn first cap).run Tryd.prog w = .ok (.func fn first cap) w := fun _ _ _ _ => rfl
  go_enter_defers Tryd.func24, Tryd.ntmps24
  go_wp2_with fail
  refine (aheadB_ok _ _ _ 4 _ (by omega) (by omega) (by omega)).mono ?_; rintro e w' ⟨rfl, rfl⟩
  go_wp2_with (go_at_call 34; refine (numberB_at g o 0 _ _ s w hs.out (by omega) (by omega) _ (by intro i; exact threeB_cell w 0 { data := #[] } 0 0 0 g i hg)).mono ?_; rintro e w' ⟨rfl, k, rfl⟩)
  refine (aheadB_few _ _ _ _ _ (by omega)).mono ?_; rintro e w' ⟨rfl, rfl⟩
  go_wp2
  refine leaves_cons (f := 32) (args := #[.pointer (some ⟨w.heap.size, 0, none⟩), .pointer (some ⟨w.heap.size + 1, 0, none⟩), .pointer (some ⟨w.heap.size + 1 + 1, 0, none⟩)]) (by simp) (by simp [go_sem]) ?_
  refine (catchB_three w 0 { data := #[] } (4 + (num s 0 : Int) - 4) 0 _ _ _ _).mono ?_
  rintro e u' w'' ⟨rfl, rfl, rfl⟩
  simp [Leaves, settle, results, Tryd.results24, go_sem, threeB]
  exact below_drewN (threeB_below w 0 { data := #[] } 0 4) _

set_option maxHeartbeats 1000000 in
theorem firstB_formN (t g o cap : Nat) (s : ByteArray) (w : World) (hs : Hid (Lies w g o s)) (hg : g < w.heap.size) (hcap : s.size ≤ cap) (h : 5 ≤ s.size) (hx : 0 < s.size) (ht : (s[0]'hx).toNat = t) (hn : num s 1 < 4) :
    Calls Tryd.prog 24 #[.slice (some ⟨g, o, none⟩) s.size cap, .bool false] w fun e w' => e = .returned (.tuple #[.agg #[.int .u8 0, .string { data := #[] }], .int .i64 0, .int .i64 2]) ∧ Below w.heap.size w w' := by
  have hmf : ∀ (fn : Fn) (first cap : Array Value) (w : World), (Instr.makeFunc fn first cap).run Tryd.prog w = .ok (.func fn first cap) w := fun _ _ _ _ => rfl
  have hc0 : w.cell? ⟨g, o, none⟩ = some (.int .u8 t) := by have := hs.out.at 0 hx; rw [ht] at this; exact this
  have hg1 : g < w.heap.size + 1 := by omega
  have hg2 : g < w.heap.size + 1 + 1 := by omega
  go_enter_defers Tryd.func24, Tryd.ntmps24
  go_wp2_with fail
  refine (aheadB_ok _ _ _ 5 _ (by omega) (by omega) (by omega)).mono ?_; rintro e w' ⟨rfl, rfl⟩
  go_wp2_with (go_at_call 34; refine (numberB_at g o 1 _ _ s w hs.out (by omega) (by omega) _ (by intro i; exact threeB_cell w 0 { data := #[] } 0 0 0 g i hg)).mono ?_; rintro e w' ⟨rfl, k, rfl⟩)
  refine leaves_cons (f := 32) (args := #[.pointer (some ⟨w.heap.size, 0, none⟩), .pointer (some ⟨w.heap.size + 1, 0, none⟩), .pointer (some ⟨w.heap.size + 1 + 1, 0, none⟩)]) (by simp) (by simp [go_sem]) ?_
  refine (catchB_idle w.heap.size _).mono ?_
  rintro e u' w'' ⟨rfl, rfl, rfl⟩
  simp [Leaves, settle, results, Tryd.results24, go_sem]
  exact below_drewN (threeB_below w 0 { data := #[] } 0 2) _

set_option maxHeartbeats 1000000 in
theorem firstB_formT (g o cap : Nat) (s : ByteArray) (w : World) (hs : Hid (Lies w g o s)) (hg : g < w.heap.size) (hcap : s.size ≤ cap) (h : 5 ≤ s.size) (hx : 0 < s.size) (ht : (s[0]'hx).toNat = 0) (hn : 4 ≤ num s 1) :
    Calls Tryd.prog 24 #[.slice (some ⟨g, o, none⟩) s.size cap, .bool false] w fun e w' => e = .returned (.tuple #[.agg #[.int .u8 0, .string { data := #[] }], .int .i64 0, .int .i64 2]) ∧ Below w.heap.size w w' := by
  have hmf : ∀ (fn : Fn) (first cap : Array Value) (w : World), (Instr.makeFunc fn first cap).run Tryd.prog w = .ok (.func fn first cap) w := fun _ _ _ _ => rfl
  have hc0 : w.cell? ⟨g, o, none⟩ = some (.int .u8 0) := by have := hs.out.at 0 hx; rw [ht] at this; exact this
  have hg1 : g < w.heap.size + 1 := by omega
  have hg2 : g < w.heap.size + 1 + 1 := by omega
  go_enter_defers Tryd.func24, Tryd.ntmps24
  go_wp2_with fail
  refine (aheadB_ok _ _ _ 5 _ (by omega) (by omega) (by omega)).mono ?_; rintro e w' ⟨rfl, rfl⟩
  go_wp2_with (go_at_call 34; refine (numberB_at g o 1 _ _ s w hs.out (by omega) (by omega) _ (by intro i; exact threeB_cell w 0 { data := #[] } 0 0 0 g i hg)).mono ?_; rintro e w' ⟨rfl, k, rfl⟩)
  refine leaves_cons (f := 32) (args := #[.pointer (some ⟨w.heap.size, 0, none⟩), .pointer (some ⟨w.heap.size + 1, 0, none⟩), .pointer (some ⟨w.heap.size + 1 + 1, 0, none⟩)]) (by simp) (by simp [go_sem]) ?_
  refine (catchB_idle w.heap.size _).mono ?_
  rintro e u' w'' ⟨rfl, rfl, rfl⟩
  simp [Leaves, settle, results, Tryd.results24, go_sem]
  exact below_drewN (threeB_below w 0 { data := #[] } 0 2) _

set_option maxHeartbeats 1000000 in
theorem firstB_long (t g o cap : Nat) (s : ByteArray) (w : World) (hs : Hid (Lies w g o s)) (hg : g < w.heap.size) (hcap : s.size ≤ cap) (h : 5 ≤ s.size) (hx : 0 < s.size) (ht : (s[0]'hx).toNat = t) (hn : 10004 < num s 1) (ht0 : 0 < t) :
    Calls Tryd.prog 24 #[.slice (some ⟨g, o, none⟩) s.size cap, .bool false] w fun e w' => e = .returned (.tuple #[.agg #[.int .u8 0, .string { data := #[] }], .int .i64 0, .int .i64 3]) ∧ Below w.heap.size w w' := by
  have hmf : ∀ (fn : Fn) (first cap : Array Value) (w : World), (Instr.makeFunc fn first cap).run Tryd.prog w = .ok (.func fn first cap) w := fun _ _ _ _ => rfl
  have hc0 : w.cell? ⟨g, o, none⟩ = some (.int .u8 t) := by have := hs.out.at 0 hx; rw [ht] at this; exact this
  have hg1 : g < w.heap.size + 1 := by omega
  have hg2 : g < w.heap.size + 1 + 1 := by omega
  have hz : ((t : Int) == 0) = false := by simp; omega
  go_enter_defers Tryd.func24, Tryd.ntmps24
  go_wp2_with fail
  refine (aheadB_ok _ _ _ 5 _ (by omega) (by omega) (by omega)).mono ?_; rintro e w' ⟨rfl, rfl⟩
  go_wp2_with (go_at_call 34; refine (numberB_at g o 1 _ _ s w hs.out (by omega) (by omega) _ (by intro i; exact threeB_cell w 0 { data := #[] } 0 0 0 g i hg)).mono ?_; rintro e w' ⟨rfl, k, rfl⟩)
  refine leaves_cons (f := 32) (args := #[.pointer (some ⟨w.heap.size, 0, none⟩), .pointer (some ⟨w.heap.size + 1, 0, none⟩), .pointer (some ⟨w.heap.size + 1 + 1, 0, none⟩)]) (by simp) (by simp [go_sem]) ?_
  refine (catchB_idle w.heap.size _).mono ?_
  rintro e u' w'' ⟨rfl, rfl, rfl⟩
  simp [Leaves, settle, results, Tryd.results24, go_sem]
  exact below_drewN (threeB_below w 0 { data := #[] } 0 3) _

set_option maxHeartbeats 1000000 in
theorem firstB_more (t g o cap : Nat) (s : ByteArray) (w : World) (hs : Hid (Lies w g o s)) (hg : g < w.heap.size) (hcap : s.size ≤ cap) (h : 5 ≤ s.size) (hx : 0 < s.size) (ht : (s[0]'hx).toNat = t) (hn : 4 ≤ num s 1) (hn2 : num s 1 ≤ 10004) (ht0 : 0 < t) (hm : s.size < num s 1 + 1) :
    Calls Tryd.prog 24 #[.slice (some ⟨g, o, none⟩) s.size cap, .bool false] w fun e w' => e = .returned (.tuple #[.agg #[.int .u8 0, .string { data := #[] }], .int .i64 0, .int .i64 4]) ∧ Below w.heap.size w w' := by
  have hmf : ∀ (fn : Fn) (first cap : Array Value) (w : World), (Instr.makeFunc fn first cap).run Tryd.prog w = .ok (.func fn first cap) w := fun _ _ _ _ => rfl
  have hc0 : w.cell? ⟨g, o, none⟩ = some (.int .u8 t) := by have := hs.out.at 0 hx; rw [ht] at this; exact this
  have hg1 : g < w.heap.size + 1 := by omega
  have hg2 : g < w.heap.size + 1 + 1 := by omega
  have hz : ((t : Int) == 0) = false := by simp; omega
  go_enter_defers Tryd.func24, Tryd.ntmps24
  go_wp2_with fail
  refine (aheadB_ok _ _ _ 5 _ (by omega) (by omega) (by omega)).mono ?_; rintro e w' ⟨rfl, rfl⟩
  go_wp2_with (go_at_call 34; refine (numberB_at g o 1 _ _ s w hs.out (by omega) (by omega) _ (by intro i; exact threeB_cell w 0 { data := #[] } 0 0 0 g i hg)).mono ?_; rintro e w' ⟨rfl, k, rfl⟩)
  refine (aheadB_few _ _ _ _ _ (by omega)).mono ?_; rintro e w' ⟨rfl, rfl⟩
  go_wp2
  refine leaves_cons (f := 32) (args := #[.pointer (some ⟨w.heap.size, 0, none⟩), .pointer (some ⟨w.heap.size + 1, 0, none⟩), .pointer (some ⟨w.heap.size + 1 + 1, 0, none⟩)]) (by simp) (by simp [go_sem]) ?_
  refine (catchB_three w t { data := #[] } (5 + (num s 1 : Int) - 4) 0 _ _ _ _).mono ?_
  rintro e u' w'' ⟨rfl, rfl, rfl⟩
  simp [Leaves, settle, results, Tryd.results24, go_sem, threeB]
  exact below_drewN (threeB_below w 0 { data := #[] } 0 4) _

set_option maxHeartbeats 1000000 in
theorem firstB_ok_bare (g o cap : Nat) (s r : ByteArray) (w : World) (hs : Hid (Lies w g o s)) (hg : g < w.heap.size) (hcap : s.size ≤ cap) (h : 4 ≤ s.size) (hn : 4 ≤ num s 0) (hn2 : num s 0 ≤ 10004) (hm : num s 0 ≤ s.size) (hc4 : ¬ cap = 4) (hr : Hid (s.extract 4 (4 + (num s 0 - 4)) = r)) :
    Calls Tryd.prog 24 #[.slice (some ⟨g, o, none⟩) s.size cap, .bool true] w fun e w' => e = .returned (.tuple #[.agg #[.int .u8 0, .string r], .int .i64 (4 + (num s 0 : Int) - 4), .int .i64 0]) ∧ Below w.heap.size w w' := by
  have hmf : ∀ (fn : Fn) (first cap : Array Value) (w : World), (Instr.makeFunc fn first cap).run Tryd.prog w = .ok (.func fn first cap) w := fun _ _ _ _ => rfl
  go_enter_defers Tryd.func24, Tryd.ntmps24
  go_wp2_with fail
  refine (aheadB_ok _ _ _ 4 _ (by omega) (by omega) (by omega)).mono ?_; rintro e w' ⟨rfl, rfl⟩
  go_wp2_with (go_at_call 34; refine (numberB_at g o 0 _ _ s w hs.out (by omega) (by omega) _ (by intro i; exact threeB_cell w 0 { data := #[] } 0 0 0 g i hg)).mono ?_; rintro e w' ⟨rfl, k, rfl⟩)
  refine (aheadB_ok _ _ _ _ _ (by omega) (by omega) (by omega)).mono ?_; rintro e w' ⟨rfl, rfl⟩
  have hcv := convB g o 4 (num s 0 - 4) (cap - 4) s w hs.out (by omega) ((threeB w 0 { data := #[] } (4 + (num s 0 : Int) - 4) 0).drewN k) (fun i => threeB_cell w _ _ _ 0 k g i hg)
  rw [hr.out] at hcv
  simp only [threeB] at hcv
  go_wp2
  go_region
  go_wp2
  refine leaves_cons (f := 32) (args := #[.pointer (some ⟨w.heap.size, 0, none⟩), .pointer (some ⟨w.heap.size + 1, 0, none⟩), .pointer (some ⟨w.heap.size + 1 + 1, 0, none⟩)]) (by simp) (by simp [go_sem]) ?_
  refine (catchB_idle w.heap.size _).mono ?_
  rintro e u' w'' ⟨rfl, rfl, rfl⟩
  simp [Leaves, settle, results, Tryd.results24, go_sem]
  exact below_drewN (threeB_below w 0 r (4 + (num s 0 : Int) - 4) 0) _

set_option maxHeartbeats 1000000 in
theorem firstB_ok (t g o cap : Nat) (s r : ByteArray) (w : World) (hs : Hid (Lies w g o s)) (hg : g < w.heap.size) (hcap : s.size ≤ cap) (h : 5 ≤ s.size) (hx : 0 < s.size) (ht : (s[0]'hx).toNat = t) (hn : 4 ≤ num s 1) (hn2 : num s 1 ≤ 10004) (ht0 : 0 < t) (hm : num s 1 + 1 ≤ s.size) (hc4 : ¬ cap = 5) (hr : Hid (s.extract 5 (5 + (5 + num s 1 - 4 - 5)) = r)) :
    Calls Tryd.prog 24 #[.slice (some ⟨g, o, none⟩) s.size cap, .bool false] w fun e w' => e = .returned (.tuple #[.agg #[.int .u8 t, .string r], .int .i64 (5 + (num s 1 : Int) - 4), .int .i64 0]) ∧ Below w.heap.size w w' := by
  have hmf : ∀ (fn : Fn) (first cap : Array Value) (w : World), (Instr.makeFunc fn first cap).run Tryd.prog w = .ok (.func fn first cap) w := fun _ _ _ _ => rfl
  have hc0 : w.cell? ⟨g, o, none⟩ = some (.int .u8 t) := by have := hs.out.at 0 hx; rw [ht] at this; exact this
  have hg1 : g < w.heap.size + 1 := by omega
  have hg2 : g < w.heap.size + 1 + 1 := by omega
  have hz : ((t : Int) == 0) = false := by simp; omega
  go_enter_defers Tryd.func24, Tryd.ntmps24
  go_wp2_with fail
  refine (aheadB_ok _ _ _ 5 _ (by omega) (by omega) (by omega)).mono ?_; rintro e w' ⟨rfl, rfl⟩
  go_wp2_with (go_at_call 34; refine (numberB_at g o 1 _ _ s w hs.out (by omega) (by omega) _ (by intro i; exact threeB_cell w 0 { data := #[] } 0 0 0 g i hg)).mono ?_; rintro e w' ⟨rfl, k, rfl⟩)
  refine (aheadB_ok _ _ _ _ _ (by omega) (by omega) (by omega)).mono ?_; rintro e w' ⟨rfl, rfl⟩
  have hcv := convB g o 5 (5 + num s 1 - 4 - 5) (cap - 5) s w hs.out (by omega) ((threeB w t { data := #[] } (5 + (num s 1 : Int) - 4) 0).drewN k) (fun i => threeB_cell w _ _ _ 0 k g i hg)
  rw [hr.out] at hcv
  simp only [threeB] at hcv
  go_wp2
  go_region
  go_wp2
  refine leaves_cons (f := 32) (args := #[.pointer (some ⟨w.heap.size, 0, none⟩), .pointer (some ⟨w.heap.size + 1, 0, none⟩), .pointer (some ⟨w.heap.size + 1 + 1, 0, none⟩)]) (by simp) (by simp [go_sem]) ?_
  refine (catchB_idle w.heap.size _).mono ?_
  rintro e u' w'' ⟨rfl, rfl, rfl⟩
  simp [Leaves, settle, results, Tryd.results24, go_sem]
  exact below_drewN (threeB_below w t r (5 + (num s 1 : Int) - 4) 0) _

set_option maxHeartbeats 1000000 in
theorem firstB_just_bare (g o : Nat) (s : ByteArray) (w : World) (hs : Hid (Lies w g o s)) (hg : g < w.heap.size) (h : 4 ≤ s.size) (hm : num s 0 = 4) (hz4 : s.size = 4) :
    Calls Tryd.prog 24 #[.slice (some ⟨g, o, none⟩) s.size 4, .bool true] w fun e w' => e = .returned (.tuple #[.agg #[.int .u8 0, .string { data := #[] }], .int .i64 4, .int .i64 0]) ∧ Below w.heap.size w w' := by
  have hmf : ∀ (fn : Fn) (first cap : Array Value) (w : World), (Instr.makeFunc fn first cap).run Tryd.prog w = .ok (.func fn first cap) w := fun _ _ _ _ => rfl
  go_enter_defers Tryd.func24, Tryd.ntmps24
  go_wp2_with fail
  refine (aheadB_ok _ _ _ 4 _ (by omega) (by omega) (by omega)).mono ?_; rintro e w' ⟨rfl, rfl⟩
  go_wp2_with (go_at_call 34; refine (numberB_at g o 0 _ _ s w hs.out (by omega) (by omega) _ (by intro i; exact threeB_cell w 0 { data := #[] } 0 0 0 g i hg)).mono ?_; rintro e w' ⟨rfl, k, rfl⟩)
  refine (aheadB_ok _ _ _ _ _ (by omega) (by omega) (by omega)).mono ?_; rintro e w' ⟨rfl, rfl⟩
  have hcv := convB g o 0 0 0 s w hs.out (by omega) ((threeB w 0 { data := #[] } 4 0).drewN k) (fun i => threeB_cell w _ _ _ 0 k g i hg)
  rw [show s.extract 0 (0 + 0) = { data := #[] } from by apply bytes_ext; rw [extract_data]; simp, Nat.add_zero] at hcv
  simp only [threeB] at hcv
  go_wp2
  go_region
  go_wp2
  refine leaves_cons (f := 32) (args := #[.pointer (some ⟨w.heap.size, 0, none⟩), .pointer (some ⟨w.heap.size + 1, 0, none⟩), .pointer (some ⟨w.heap.size + 1 + 1, 0, none⟩)]) (by simp) (by simp [go_sem]) ?_
  refine (catchB_idle w.heap.size _).mono ?_
  rintro e u' w'' ⟨rfl, rfl, rfl⟩
  simp [Leaves, settle, results, Tryd.results24, go_sem]
  exact below_drewN (threeB_below w 0 { data := #[] } 4 0) _

set_option maxHeartbeats 1000000 in
theorem firstB_just (t g o : Nat) (s : ByteArray) (w : World) (hs : Hid (Lies w g o s)) (hg : g < w.heap.size) (h : 5 ≤ s.size) (hx : 0 < s.size) (ht : (s[0]'hx).toNat = t) (ht0 : 0 < t) (hm : num s 1 = 4) (hz4 : s.size = 5) :
    Calls Tryd.prog 24 #[.slice (some ⟨g, o, none⟩) s.size 5, .bool false] w fun e w' => e = .returned (.tuple #[.agg #[.int .u8 t, .string { data := #[] }], .int .i64 5, .int .i64 0]) ∧ Below w.heap.size w w' := by
  have hmf : ∀ (fn : Fn) (first cap : Array Value) (w : World), (Instr.makeFunc fn first cap).run Tryd.prog w = .ok (.func fn first cap) w := fun _ _ _ _ => rfl
  have hc0 : w.cell? ⟨g, o, none⟩ = some (.int .u8 t) := by have := hs.out.at 0 hx; rw [ht] at this; exact this
  have hg1 : g < w.heap.size + 1 := by omega
  have hg2 : g < w.heap.size + 1 + 1 := by omega
  have hz : ((t : Int) == 0) = false := by simp; omega
  go_enter_defers Tryd.func24, Tryd.ntmps24
  go_wp2_with fail
  refine (aheadB_ok _ _ _ 5 _ (by omega) (by omega) (by omega)).mono ?_; rintro e w' ⟨rfl, rfl⟩
  go_wp2_with (go_at_call 34; refine (numberB_at g o 1 _ _ s w hs.out (by omega) (by omega) _ (by intro i; exact threeB_cell w 0 { data := #[] } 0 0 0 g i hg)).mono ?_; rintro e w' ⟨rfl, k, rfl⟩)
  refine (aheadB_ok _ _ _ _ _ (by omega) (by omega) (by omega)).mono ?_; rintro e w' ⟨rfl, rfl⟩
  have hcv := convB g o 0 0 0 s w hs.out (by omega) ((threeB w t { data := #[] } 5 0).drewN k) (fun i => threeB_cell w _ _ _ 0 k g i hg)
  rw [show s.extract 0 (0 + 0) = { data := #[] } from by apply bytes_ext; rw [extract_data]; simp, Nat.add_zero] at hcv
  simp only [threeB] at hcv
  go_wp2
  go_region
  go_wp2
  refine leaves_cons (f := 32) (args := #[.pointer (some ⟨w.heap.size, 0, none⟩), .pointer (some ⟨w.heap.size + 1, 0, none⟩), .pointer (some ⟨w.heap.size + 1 + 1, 0, none⟩)]) (by simp) (by simp [go_sem]) ?_
  refine (catchB_idle w.heap.size _).mono ?_
  rintro e u' w'' ⟨rfl, rfl, rfl⟩
  simp [Leaves, settle, results, Tryd.results24, go_sem]
  exact below_drewN (threeB_below w t { data := #[] } 5 0) _

end Go.Proofs.YtmofnkinclckoaaDoor

namespace Go.Proofs.YtmofnkinclckoaaDoor
open Go.RowKit Go.Lib

/-- A slice of bytes that reads s. -/
def Reads (w : World) (v : Value) (s : ByteArray) : Prop :=
  (v = .slice none 0 0 ∧ s.size = 0) ∨ ∃ g o cap, v = .slice (some ⟨g, o, none⟩) s.size cap ∧ s.size ≤ cap ∧ g < w.heap.size ∧ Lies w g o s

theorem head_byteB (s : ByteArray) (h : 4 ≤ s.size) (hx : 0 < s.size) : (s[0]'hx).toNat = headT s false := by
  rw [headT, bytes_four s h]
  rfl

theorem good_frame {s : ByteArray} {bare : Bool} (h : frameE s bare = 0) : headN bare ≤ s.size ∧ 4 ≤ num s (headN bare - 4) ∧ num s (headN bare - 4) ≤ 10004 ∧ frameN s bare ≤ s.size ∧ (bare = false → 0 < headT s bare) := by
  unfold frameE at h
  repeat' split at h
  all_goals first | (exfalso; omega) | skip
  rename_i h1 h2 h3 h4
  refine ⟨by omega, by omega, by omega, by omega, fun hb => ?_⟩
  have : ¬ headT s bare = 0 := fun e => h2 (Or.inr ⟨hb, e⟩)
  omega

theorem firstB_err (s : ByteArray) (v : Value) (bare : Bool) (w : World) (hv : Reads w v s) (hE : ¬ frameE s bare = 0) :
    Calls Tryd.prog 24 #[v, .bool bare] w fun e w' => e = .returned (.tuple #[.agg #[.int .u8 0, .string { data := #[] }], .int .i64 0, .int .i64 (frameE s bare)]) ∧ Below w.heap.size w w' := by
  rcases hv with ⟨rfl, hz⟩ | ⟨g, o, cap, rfl, hcap, hg, hs⟩
  · have e : frameE s bare = 4 := by
      unfold frameE; rw [if_pos (by rw [hz]; unfold headN; split <;> omega)]
    rw [e]
    cases bare with
    | true => exact firstB_few_bare _ _ _ w (by omega)
    | false => exact firstB_few _ _ _ w (by omega)
  cases bare with
  | true =>
    unfold frameE at hE ⊢
    simp only [headN, if_true, frameN, Nat.sub_self, Nat.zero_add, Bool.true_eq_false, false_and, or_false] at hE ⊢
    by_cases h1 : s.size < 4
    · rw [if_pos h1]; exact firstB_few_bare _ _ _ w h1
    rw [if_neg h1] at hE ⊢
    by_cases h2 : num s 0 < 4
    · rw [if_pos h2]; exact firstB_form_bare g o cap s w (Lib.hid hs) hg hcap (by omega) h2
    rw [if_neg h2] at hE ⊢
    by_cases h3 : 10004 < num s 0
    · rw [if_pos h3]; exact firstB_long_bare g o cap s w (Lib.hid hs) hg hcap (by omega) h3
    rw [if_neg h3] at hE ⊢
    by_cases h4 : s.size < num s 0
    · rw [if_pos h4]; exact firstB_more_bare g o cap s w (Lib.hid hs) hg hcap (by omega) (by omega) (by omega) h4
    · rw [if_neg h4] at hE; exact absurd rfl hE
  | false =>
    unfold frameE at hE ⊢
    simp only [headN, Bool.false_eq_true, if_false, frameN, true_and, show 5 - 4 = 1 from rfl] at hE ⊢
    by_cases h1 : s.size < 5
    · rw [if_pos h1]; exact firstB_few _ _ _ w h1
    have hx : 0 < s.size := by omega
    have ht := head_byteB s (by omega) hx
    rw [if_neg h1] at hE ⊢
    by_cases h2 : num s 1 < 4
    · rw [if_pos (Or.inl h2)]; exact firstB_formN _ g o cap s w (Lib.hid hs) hg hcap (by omega) hx ht h2
    by_cases h0 : headT s false = 0
    · rw [if_pos (Or.inr h0)]; exact firstB_formT g o cap s w (Lib.hid hs) hg hcap (by omega) hx (ht.trans h0) (by omega)
    rw [if_neg (fun h => h.elim h2 h0)] at hE ⊢
    by_cases h3 : 10004 < num s 1
    · rw [if_pos h3]; exact firstB_long _ g o cap s w (Lib.hid hs) hg hcap (by omega) hx ht h3 (by omega)
    rw [if_neg h3] at hE ⊢
    by_cases h4 : s.size < 1 + num s 1
    · rw [if_pos h4]; exact firstB_more _ g o cap s w (Lib.hid hs) hg hcap (by omega) hx ht (by omega) (by omega) (by omega) (by omega)
    · rw [if_neg h4] at hE; exact absurd rfl hE

theorem firstB_good (s : ByteArray) (v : Value) (bare : Bool) (w : World) (hv : Reads w v s) (hE : frameE s bare = 0) :
    Calls Tryd.prog 24 #[v, .bool bare] w fun e w' => e = .returned (.tuple #[.agg #[.int .u8 (headT s bare : Nat), .string (frameB s bare)], .int .i64 (frameN s bare : Nat), .int .i64 0]) ∧ Below w.heap.size w w' := by
  obtain ⟨h1, h2, h3, h4, h5⟩ := good_frame hE
  rcases hv with ⟨rfl, hz⟩ | ⟨g, o, cap, rfl, hcap, hg, hs⟩
  · exfalso; unfold headN at h1; split at h1 <;> omega
  cases bare with
  | true =>
    simp only [headN, if_true, frameN, Nat.sub_self, Nat.zero_add] at h1 h2 h3 h4
    have eT : ((headT s true : Nat) : Int) = 0 := rfl
    have eN : frameN s true = num s 0 := by simp only [headN, if_true, frameN, Nat.sub_self, Nat.zero_add]
    have eB : frameB s true = s.extract 4 (num s 0) := by simp only [frameB, headN, if_true, frameN, Nat.sub_self, Nat.zero_add]
    by_cases hc : cap = 4
    · subst hc
      have hz : s.size = 4 := by omega
      have hm : num s 0 = 4 := by omega
      have e1 : frameB s true = { data := #[] } := by
        rw [eB, hm]; apply bytes_ext; rw [extract_data]; simp
      rw [eT, e1, eN, hm, show ((4 : Nat) : Int) = 4 from rfl]
      exact firstB_just_bare g o s w (Lib.hid hs) hg h1 hm hz
    · have e1 : frameB s true = s.extract 4 (4 + (num s 0 - 4)) := by rw [eB, show 4 + (num s 0 - 4) = num s 0 by omega]
      have e2 : ((frameN s true : Nat) : Int) = 4 + (num s 0 : Int) - 4 := by rw [eN]; omega
      rw [eT, e2]
      exact firstB_ok_bare g o cap s _ w (Lib.hid hs) hg hcap h1 h2 h3 h4 hc (Lib.hid e1.symm)
  | false =>
    simp only [headN, Bool.false_eq_true, if_false, frameN, show 5 - 4 = 1 from rfl] at h1 h2 h3 h4
    have eN : frameN s false = 1 + num s 1 := by simp only [headN, Bool.false_eq_true, if_false, frameN, show 5 - 4 = 1 from rfl]
    have eB : frameB s false = s.extract 5 (1 + num s 1) := by simp only [frameB, headN, Bool.false_eq_true, if_false, frameN, show 5 - 4 = 1 from rfl]
    have hx : 0 < s.size := by omega
    have ht := head_byteB s (by omega) hx
    by_cases hc : cap = 5
    · subst hc
      have hz : s.size = 5 := by omega
      have hm : num s 1 = 4 := by omega
      have e1 : frameB s false = { data := #[] } := by
        rw [eB, hm]; apply bytes_ext; rw [extract_data]; simp
      rw [e1, eN, hm, show ((1 + 4 : Nat) : Int) = 5 from rfl]
      exact firstB_just _ g o s w (Lib.hid hs) hg h1 hx ht (h5 rfl) hm hz
    · have e1 : frameB s false = s.extract 5 (5 + (5 + num s 1 - 4 - 5)) := by rw [eB, show 5 + (5 + num s 1 - 4 - 5) = 1 + num s 1 by omega]
      have e2 : ((frameN s false : Nat) : Int) = 5 + (num s 1 : Int) - 4 := by rw [eN]; omega
      rw [e2]
      exact firstB_ok _ g o cap s _ w (Lib.hid hs) hg hcap h1 hx ht h2 h3 (h5 rfl) (by omega) hc (Lib.hid e1.symm)
end Go.Proofs.YtmofnkinclckoaaDoor

namespace Go.Proofs.YtmofnkinclckoaaDoor
open Go.Lib (extract_data)

theorem num_app (s x : ByteArray) (i : Nat) (h : i + 4 ≤ s.size) : num (s ++ x) i = num s i := by
  have hl := size_list s
  unfold num
  rw [append_list, List.drop_append_of_le_length (by omega), ← big4_take, List.take_append_of_le_length (by rw [List.length_drop]; omega), big4_take]

theorem headT_app (s x : ByteArray) (bare : Bool) (h : 0 < s.size) : headT (s ++ x) bare = headT s bare := by
  have hl := size_list s
  unfold headT
  rw [append_list]
  cases hs : s.data.toList with
  | nil => rw [hs] at hl; simp at hl; omega
  | cons a l => rfl

theorem headN_ge (bare : Bool) : 4 ≤ headN bare ∧ headN bare ≤ 5 := by unfold headN; split <;> omega

theorem frameN_app (s x : ByteArray) (bare : Bool) (h : headN bare ≤ s.size) : frameN (s ++ x) bare = frameN s bare := by
  have := headN_ge bare
  unfold frameN
  rw [num_app s x _ (by omega)]

/-- What is no want of bytes stays so when more bytes come. -/
theorem frameE_app (s x : ByteArray) (bare : Bool) (h : ¬ frameE s bare = 4) : frameE (s ++ x) bare = frameE s bare := by
  have hn := headN_ge bare
  by_cases h1 : s.size < headN bare
  · exact absurd (if_pos h1) h
  have e1 := num_app s x (headN bare - 4) (by omega)
  have e2 := headT_app s x bare (by omega)
  have e3 := frameN_app s x bare (by omega)
  have hz := append_size s x
  unfold frameE at h ⊢
  rw [e1, e2, e3, if_neg (show ¬ (s ++ x).size < headN bare by omega)]
  rw [if_neg h1] at h ⊢
  by_cases h2 : num s (headN bare - 4) < 4 ∨ (bare = false ∧ headT s bare = 0)
  · rw [if_pos h2, if_pos h2]
  rw [if_neg h2] at h ⊢
  rw [if_neg h2]
  by_cases h3 : 10004 < num s (headN bare - 4)
  · rw [if_pos h3, if_pos h3]
  rw [if_neg h3] at h ⊢
  rw [if_neg h3]
  by_cases h4 : s.size < frameN s bare
  · exact absurd (if_pos h4) h
  rw [if_neg h4, if_neg (by omega)]

theorem frameB_app (s x : ByteArray) (bare : Bool) (h : frameE s bare = 0) : frameB (s ++ x) bare = frameB s bare := by
  have g := good_frame h
  have hl := size_list s
  have e3 := frameN_app s x bare g.1
  unfold frameB
  rw [e3]
  apply bytes_ext
  rw [extract_data, extract_data, append_list, List.drop_append_of_le_length (by omega), List.take_append_of_le_length (by rw [List.length_drop]; omega)]

theorem rest_app (s x : ByteArray) (bare : Bool) (h : frameE s bare = 0) : (s ++ x).extract (frameN (s ++ x) bare) (s ++ x).size = s.extract (frameN s bare) s.size ++ x := by
  have g := good_frame h
  have hl := size_list s
  have hz := append_size s x
  have hx := size_list x
  rw [frameN_app s x bare g.1]
  apply bytes_ext
  rw [extract_data, append_list, append_list, extract_data, List.drop_append_of_le_length (by omega), List.take_of_length_le (by rw [List.length_append, List.length_drop]; omega), List.take_of_length_le (by rw [List.length_drop]; omega)]

/-- A reader that began with s (bare or not) has given got, and holds s' (bare or not). -/
inductive Steps : ByteArray → Bool → List (Nat × ByteArray) → ByteArray → Bool → Prop
  | none (s b) : Steps s b [] s b
  | one {s b got s' b'} (h : frameE s b = 0) (t : Steps (s.extract (frameN s b) s.size) false got s' b') : Steps s b ((headT s b, frameB s b) :: got) s' b'

theorem Steps.more {s : ByteArray} {b : Bool} {got : List (Nat × ByteArray)} {s' : ByteArray} {b' : Bool} (h : Steps s b got s' b') (x : ByteArray) : Steps (s ++ x) b got (s' ++ x) b' := by
  induction h with
  | none => exact .none _ _
  | @one s b got s' b' h t ih =>
    have g := good_frame h
    rw [← headT_app s x b (by have := headN_ge b; omega), ← frameB_app s x b h]
    refine .one (by rw [frameE_app s x b (by rw [h]; decide)]; exact h) ?_
    rw [rest_app s x b h]
    exact ih

theorem Steps.snoc {s : ByteArray} {b : Bool} {got : List (Nat × ByteArray)} {s' : ByteArray} {b' : Bool} (h : Steps s b got s' b') (hE : frameE s' b' = 0) :
    Steps s b (got ++ [(headT s' b', frameB s' b')]) (s'.extract (frameN s' b') s'.size) false := by
  induction h with
  | none => exact .one hE (.none _ _)
  | one h _ ih => exact .one h (ih hE)

/-- Two ways through one text that both can't go on have come to the same. -/
theorem Steps.same {s : ByteArray} {b : Bool} {got : List (Nat × ByteArray)} {s' : ByteArray} {b' : Bool} (h : Steps s b got s' b') (hE : ¬ frameE s' b' = 0) {got2 : List (Nat × ByteArray)} {s2 : ByteArray} {b2 : Bool} (h2 : Steps s b got2 s2 b2) (hE2 : ¬ frameE s2 b2 = 0) :
    got = got2 ∧ s' = s2 ∧ b' = b2 := by
  induction h generalizing got2 s2 b2 with
  | none s b =>
    cases h2 with
    | none => exact ⟨rfl, rfl, rfl⟩
    | one h _ => exact absurd h hE
  | one h _ ih =>
    cases h2 with
    | none => exact absurd h hE2
    | one h2 t2 =>
      obtain ⟨rfl, rfl, rfl⟩ := ih hE t2 hE2
      exact ⟨rfl, rfl, rfl⟩

/-- The flag: a reader is bare until it has given a frame. -/
theorem Steps.flag {s : ByteArray} {b : Bool} {got : List (Nat × ByteArray)} {s' : ByteArray} {b' : Bool} (h : Steps s b got s' b') : b' = (b && got.isEmpty) := by
  induction h with
  | none s b => cases b <;> rfl
  | one _ _ ih => rw [ih]; simp

/-- Each frame takes four bytes or more. -/
theorem Steps.size {s : ByteArray} {b : Bool} {got : List (Nat × ByteArray)} {s' : ByteArray} {b' : Bool} (h : Steps s b got s' b') : 4 * got.length + s'.size ≤ s.size := by
  induction h with
  | none => simp
  | @one s b got s' b' h t ih =>
    have g := good_frame h
    have hN : 4 ≤ frameN s b := by unfold frameN; omega
    have hz : (s.extract (frameN s b) s.size).size = s.size - frameN s b := by simp
    rw [List.length_cons]
    omega
end Go.Proofs.YtmofnkinclckoaaDoor
