/- Contracts and mathematics: MEnc, Plain, PlainTake. -/
import Derived.Test.YtmofnkinclckoaaGreatDoorZ6
import Derived.WalkKit
import Derived.Lib.AppendStr
import Derived.Lib.SlBytesRow
import Derived.Lib.BufferRead
import Derived.Lib.Hide
import Derived.Lib.EndianBits
namespace Go.Proofs.YtmofnkinclckoaaGreatDoor
open Go.RowKit Go.Lib Go.WideShapes

/-- What Encode answers for what is written: the frame's body, or why there is none. -/
def encE (r : Option Bs) : Int := match r with
  | none => 1
  | some B => if 10000 < B.length then 3 else 0
def encV (c : UInt8) (r : Option Bs) : Value := .tuple #[if encE r = 0 then .agg #[.int .u8 (c.toNat : Nat), .string ⟨(r.getD []).toArray⟩] else .agg #[.int .u8 0, .string { data := #[] }], .int .i64 (encE r)]

set_option maxRecDepth 100000 in
set_option maxHeartbeats 8000000 in
theorem encode_any (w : World) (back : Bool) (c : UInt8) (T : List Bs) (N : List Int) (tv nv : Value) (hT : TextsIn w tv T) (hN : NumsIn w nv N) (hr : room ⟨T, N, []⟩ ≤ 800000) :
    Calls Tryz.prog 21 #[.bool back, .agg #[.int .u8 (c.toNat : Nat), tv, nv]] w fun e w' => e = .returned (encV c (written back c T N)) ∧ Below w.heap.size w w' := by
  have HT := Lib.hid hT; have HN := Lib.hid hN
  obtain ⟨at', nt, ct, rfl, _⟩ := hT
  obtain ⟨an, nn, cn, rfl, _⟩ := hN
  obtain ⟨R, hR⟩ : ∃ R, R = written back c T N := ⟨_, rfl⟩
  rw [← hR]
  have HR := Lib.hid hR
  clear hR
  obtain ⟨W0, hW0⟩ : ∃ x, x = ((w.alloc (.cells #[.int .u8 (c.toNat : Nat), .slice at' nt ct, .slice an nn cn] 54)).alloc (.cells #[.int .u8 0, .string { data := #[] }] 50)) := ⟨_, rfl⟩
  have hsz : W0.heap.size = w.heap.size + 1 + 1 := by rw [hW0]; simp
  have HB := Lib.hid (show Below w.heap.size w W0 by rw [hW0]; exact ((Below.refl _ _).alloc (Nat.le_refl _) _).alloc (by simp) _)
  have HK := Lib.hid (show W0.cell? ⟨w.heap.size, 0, none⟩ = some (.int .u8 (c.toNat : Nat)) ∧ W0.cell? ⟨w.heap.size + 1, 0, none⟩ = some (.int .u8 0) ∧ W0.cell? ⟨w.heap.size + 1, 1, none⟩ = some (.string { data := #[] }) ∧ W0.frozen? ⟨w.heap.size + 1, 0, none⟩ = false ∧ W0.frozen? ⟨w.heap.size + 1, 1, none⟩ = false by rw [hW0]; simp [go_sem])
  have HF := Lib.hid (write_any W0 back c T N _ _ (HT.out.mono HB.out) (HN.out.mono HB.out) hr)
  rw [← HR.out] at HF
  have HE := Lib.hid hW0
  have HSZ := Lib.hid hsz
  clear hW0 hsz hr
  go_enter Tryz.func21, Tryz.ntmps21
  go_wp2_with fail
  rw [← HE.out]
  refine HF.out.mono ?_; rintro e w1 ⟨rfl, hB1⟩
  have kk := HK.out
  have b0 : w1.cell? ⟨w.heap.size, 0, none⟩ = some (.int .u8 (c.toNat : Nat)) := (hB1.cell (p := ⟨w.heap.size, 0, none⟩) (by show w.heap.size < _; rw [HSZ.out]; omega)).trans kk.1
  have b1 : w1.cell? ⟨w.heap.size + 1, 0, none⟩ = some (.int .u8 0) := (hB1.cell (p := ⟨w.heap.size + 1, 0, none⟩) (by show w.heap.size + 1 < _; rw [HSZ.out]; omega)).trans kk.2.1
  have b2 : w1.cell? ⟨w.heap.size + 1, 1, none⟩ = some (.string { data := #[] }) := (hB1.cell (p := ⟨w.heap.size + 1, 1, none⟩) (by show w.heap.size + 1 < _; rw [HSZ.out]; omega)).trans kk.2.2.1
  have b3 : w1.frozen? ⟨w.heap.size + 1, 0, none⟩ = false := (hB1.frozen (p := ⟨w.heap.size + 1, 0, none⟩) (by show w.heap.size + 1 < _; rw [HSZ.out]; omega)).trans kk.2.2.2.1
  have b4 : w1.frozen? ⟨w.heap.size + 1, 1, none⟩ = false := (hB1.frozen (p := ⟨w.heap.size + 1, 1, none⟩) (by show w.heap.size + 1 < _; rw [HSZ.out]; omega)).trans kk.2.2.2.2
  have HBB := Lib.hid (HB.out.trans (hB1.mono (by rw [HSZ.out]; omega)))
  clear kk hB1
  unfold writtenV
  cases R with
  | none =>
    go_wp2_with fail
    simp [bodyPost, results, Tryz.results21, go_sem, b1, b2, encV, encE]
    exact (HBB.out.setCell (by show w.heap.size ≤ w.heap.size + 1; omega) _).setCell (by show w.heap.size ≤ w.heap.size + 1; omega) _
  | some B =>
    by_cases hlong : 10000 < B.length
    · have hl' : (10000 : Int) < B.length := by omega
      go_wp2_with fail
      simp [bodyPost, results, Tryz.results21, go_sem, b1, b2, encV, encE, hlong]
      exact (HBB.out.setCell (by show w.heap.size ≤ w.heap.size + 1; omega) _).setCell (by show w.heap.size ≤ w.heap.size + 1; omega) _
    · have hl' : ¬ (10000 : Int) < B.length := by omega
      go_wp2_with fail
      simp [bodyPost, results, Tryz.results21, go_sem, b1, b2, encV, encE, hlong]
      exact (HBB.out.setCell (by show w.heap.size ≤ w.heap.size + 1; omega) _).setCell (by show w.heap.size ≤ w.heap.size + 1; omega) _
end Go.Proofs.YtmofnkinclckoaaGreatDoor

namespace Go.Proofs.YtmofnkinclckoaaGreatDoor
open Go.Lib Go.RowKit

theorem bcell {W w1 : World} (hb : Below W.heap.size W w1) : (∀ b o, b < W.heap.size → w1.cell? ⟨b, o, none⟩ = W.cell? ⟨b, o, none⟩) ∧ (∀ b o, b < W.heap.size → w1.frozen? ⟨b, o, none⟩ = W.frozen? ⟨b, o, none⟩) :=
  ⟨fun b o h => hb.cell (p := ⟨b, o, none⟩) h, fun b o h => hb.frozen (p := ⟨b, o, none⟩) h⟩


theorem two_boxes {w w' : World} {A B : Array Value} {S T : TypeId} (h : Below ((w.alloc (.cells A S)).alloc (.cells B T)).heap.size ((w.alloc (.cells A S)).alloc (.cells B T)) w') :
    (∀ i : Nat, w'.cell? ⟨w.heap.size, i, none⟩ = A[i]?) ∧ (∀ i : Nat, w'.cell? ⟨w.heap.size + 1, i, none⟩ = B[i]?) :=
  ⟨fun i => (h.cell (p := ⟨w.heap.size, i, none⟩) (by simp; omega)).trans (World.cell?_alloc2_first _ _ _ _), fun i => (h.cell (p := ⟨w.heap.size + 1, i, none⟩) (by simp)).trans (World.cell?_alloc2_new _ _ _ _)⟩

theorem frozen_new (w : World) (A : Array Value) (T : TypeId) (i : Nat) : (w.alloc (.cells A T)).frozen? ⟨w.heap.size, i, none⟩ = false := by
  simp [go_sem]

theorem one_box {w w' : World} {A : Array Value} {T : TypeId} (h : Below (w.alloc (.cells A T)).heap.size (w.alloc (.cells A T)) w') :
    (∀ i : Nat, w'.cell? ⟨w.heap.size, i, none⟩ = A[i]?) ∧ (∀ i : Nat, w'.frozen? ⟨w.heap.size, i, none⟩ = false) ∧ w.heap.size < w'.heap.size :=
  ⟨fun i => (h.cell (p := ⟨w.heap.size, i, none⟩) (by simp)).trans (World.cell?_alloc_new _ _ _ _), fun i => (h.frozen (p := ⟨w.heap.size, i, none⟩) (by simp)).trans (frozen_new _ _ _ _), by have := h.size; simp at this; omega⟩


def cellsOf (l : List UInt8) : List Value := l.map fun b => Value.int .u8 b.toNat

theorem cellsOf_append (a b : List UInt8) : cellsOf (a ++ b) = cellsOf a ++ cellsOf b := by simp [cellsOf]
theorem cellsOf_length (a : List UInt8) : (cellsOf a).length = a.length := by simp [cellsOf]
theorem strCells_eq' (s : ByteArray) : strCells s = cellsOf s.data.toList := rfl
theorem cellsOf_one (l : List UInt8) : ∀ u ∈ cellsOf l, u.oneCell' = true := by
  intro u hu
  obtain ⟨b, _, rfl⟩ := List.mem_map.1 hu
  rfl

/-- A number as four bytes, the greatest first. -/
def be4 (n : Nat) : List UInt8 := [UInt8.ofNat (n / 16777216), UInt8.ofNat (n / 65536), UInt8.ofNat (n / 256), UInt8.ofNat n]

theorem be4_length (n : Nat) : (be4 n).length = 4 := rfl

theorem be4_cells (n : Nat) (h : n ≤ 10004) : cellsOf (be4 n) = [.int .u8 ((n : Int) / 16777216), .int .u8 ((n : Int) / 65536), .int .u8 ((n : Int) / 256), .int .u8 ((n : Int) % 256)] := by
  have e (k : Nat) : (UInt8.ofNat k).toNat = k % 256 := by simp
  have e1 : ((n / 16777216 % 256 : Nat) : Int) = (n : Int) / 16777216 := by omega
  have e2 : ((n / 65536 % 256 : Nat) : Int) = (n : Int) / 65536 := by omega
  have e3 : ((n / 256 % 256 : Nat) : Int) = (n : Int) / 256 := by omega
  have e4 : ((n % 256 : Nat) : Int) = (n : Int) % 256 := by omega
  simp only [cellsOf, be4, List.map_cons, List.map_nil, e, e1, e2, e3, e4]

/-- A frame as it stands. -/
def packL (t : Int) (l : List UInt8) : List UInt8 := (if t = 0 then [] else [UInt8.ofNat t.toNat]) ++ be4 (l.length + 4) ++ l
def packB (t : Int) (s : ByteArray) : ByteArray := ⟨(packL t s.data.toList).toArray⟩

theorem packB_list (t : Int) (s : ByteArray) : (packB t s).data.toList = packL t s.data.toList := rfl

theorem size_list (s : ByteArray) : s.data.toList.length = s.size := by simp

theorem packB_size (t : Int) (s : ByteArray) : (packB t s).size = s.size + (if t = 0 then 4 else 5) := by
  rw [← size_list, packB_list]
  unfold packL
  split <;> simp [be4] <;> omega

theorem ofNat_inj {a b : Int} (ha : 0 ≤ a ∧ a < 256) (hb : 0 ≤ b ∧ b < 256) (h : UInt8.ofNat a.toNat = UInt8.ofNat b.toNat) : a = b := by
  have := congrArg UInt8.toNat h
  simp at this
  omega

theorem bytes_ext {s t : ByteArray} (h : s.data.toList = t.data.toList) : s = t := ByteArray.ext (Array.toList_inj.1 h)

theorem packB_inj {a b : Int} {s t : ByteArray} (ha : 0 ≤ a ∧ a < 256) (hb : 0 ≤ b ∧ b < 256) (hz : a = 0 ↔ b = 0) (h : packB a s = packB b t) : a = b ∧ s = t := by
  have hl : packL a s.data.toList = packL b t.data.toList := congrArg (fun x : ByteArray => x.data.toList) h
  unfold packL at hl
  by_cases h0 : a = 0
  · have h1 := hz.1 h0
    rw [if_pos h0, if_pos h1] at hl
    simp only [be4, List.nil_append, List.cons_append, List.cons.injEq] at hl
    exact ⟨by omega, bytes_ext hl.2.2.2.2⟩
  · have h1 : ¬ b = 0 := fun e => h0 (hz.2 e)
    rw [if_neg h0, if_neg h1] at hl
    simp only [be4, List.nil_append, List.cons_append, List.cons.injEq] at hl
    exact ⟨ofNat_inj ha hb hl.1, bytes_ext hl.2.2.2.2.2⟩

theorem toList_eq (s : ByteArray) : s.toList = s.data.toList := by
  exact ByteArray.toList_eq s

theorem toList_inj {s t : ByteArray} (h : s.toList = t.toList) : s = t := bytes_ext (by rw [← toList_eq, ← toList_eq]; exact h)

/-- A []byte of the call's own that holds just the bytes of R, turned into a text. -/
theorem conv_str {P : Program} {w : World} {base : Nat} {v : Value} {src e dst : TypeId} (R : ByteArray) (hs : P.underlying src = some (.slice e)) (he : P.underlying e = some (.int .u8)) (hd : P.underlying dst = some .string)
    (h : w.ownsRow base e 1 v R.size (strCells R)) : (convert src dst v).run P w = .ok (.string R) w := by
  obtain ⟨hl, h2⟩ := h
  rcases h2 with ⟨rfl, h0⟩ | ⟨g, cap, cur, rfl, hb, hg, hn, hm, hc, ht⟩
  · have hR : R = ByteArray.empty := by
      apply ByteArray.ext; apply Array.toList_inj.1
      have : R.data.toList.length = 0 := by rw [size_list]; exact h0
      simpa using List.eq_nil_of_length_eq_zero this
    subst hR
    exact run_convert_nil_bytes w src dst e 0 hs he hd
  · refine run_convert_whole w src e dst hs he hd g 0 R ?_ cap
    intro i hi
    rw [Nat.zero_add, cell_of_row w g i cur e (0, 0) hg]
    have hu : (strCells R)[i]? = some (.int .u8 (R[i].toNat : Int)) := by
      simp only [strCells, List.getElem?_map]
      have : R.data.toList[i]? = some R[i] := by
        rw [List.getElem?_eq_getElem (by rw [size_list]; exact hi)]; rfl
      rw [this]; rfl
    rw [← ht, List.getElem?_take] at hu
    split at hu
    · simpa using hu
    · cases hu

/-- Four bytes as a number, the greatest first. -/
def big4 : List UInt8 → Nat
  | a :: b :: c :: d :: _ => a.toNat * 16777216 + b.toNat * 65536 + c.toNat * 256 + d.toNat
  | _ => 0

theorem big4_lt (l : List UInt8) : big4 l < 4294967296 := by
  match l with
  | a :: b :: c :: d :: r =>
    have := a.toNat_lt; have := b.toNat_lt; have := c.toNat_lt; have := d.toNat_lt
    simp only [big4]; omega
  | [] => simp [big4]
  | [_] => simp [big4]
  | [_, _] => simp [big4]
  | [_, _, _] => simp [big4]

theorem big4_be4 (n : Nat) (h : n < 4294967296) (l : List UInt8) : big4 (be4 n ++ l) = n := by
  simp [be4, big4]; omega

theorem or_swap (x y : Int) (h1 : 0 ≤ x) (h2 : x < 4294967296) (h3 : 0 ≤ y) (h4 : y < 4294967296) : bits .or .u32 x y = bits .or .u32 y x := by
  rw [u32_or x y h1 h2 h3 h4, u32_or y x h3 h4 h1 h2, Nat.or_comm]

theorem four_or (a b c d : UInt8) : bits .or .u32 (bits .or .u32 (bits .or .u32 ((a.toNat : Int) % 4294967296 * 16777216 % 4294967296) ((b.toNat : Int) % 4294967296 * 65536 % 4294967296)) ((c.toNat : Int) % 4294967296 * 256 % 4294967296)) ((d.toNat : Int) % 4294967296)
    = ((a.toNat * 16777216 + b.toNat * 65536 + c.toNat * 256 + d.toNat : Nat) : Int) := by
  have ha := a.toNat_lt; have hb := b.toNat_lt; have hc := c.toNat_lt; have hd := d.toNat_lt
  have e0 : (a.toNat : Int) % 4294967296 * 16777216 % 4294967296 = a.toNat * 16777216 := by omega
  have e1 : (b.toNat : Int) % 4294967296 * 65536 % 4294967296 = b.toNat * 65536 := by omega
  have e2 : (c.toNat : Int) % 4294967296 * 256 % 4294967296 = c.toNat * 256 := by omega
  have e3 : (d.toNat : Int) % 4294967296 = d.toNat := by omega
  have s1 : bits .or .u32 ((a.toNat : Int) * 16777216) ((b.toNat : Int) * 65536) = (a.toNat : Int) * 16777216 + (b.toNat : Int) * 65536 := by
    rw [or_swap _ _ (by omega) (by omega) (by omega) (by omega), u32_or24 (y := (b.toNat : Int) * 65536) (x := (a.toNat : Int) * 16777216) (by omega) (by omega) (by omega) (by omega) (by omega)]; omega
  have s2 : bits .or .u32 ((a.toNat : Int) * 16777216 + (b.toNat : Int) * 65536) ((c.toNat : Int) * 256) = (a.toNat : Int) * 16777216 + (b.toNat : Int) * 65536 + (c.toNat : Int) * 256 := by
    rw [or_swap _ _ (by omega) (by omega) (by omega) (by omega), u32_or16 (y := (c.toNat : Int) * 256) (x := (a.toNat : Int) * 16777216 + (b.toNat : Int) * 65536) (by omega) (by omega) (by omega) (by omega) (by omega)]; omega
  have s3 : bits .or .u32 ((a.toNat : Int) * 16777216 + (b.toNat : Int) * 65536 + (c.toNat : Int) * 256) (d.toNat : Int) = (a.toNat : Int) * 16777216 + (b.toNat : Int) * 65536 + (c.toNat : Int) * 256 + (d.toNat : Int) := by
    rw [or_swap _ _ (by omega) (by omega) (by omega) (by omega), u32_or8 (y := (d.toNat : Int)) (x := (a.toNat : Int) * 16777216 + (b.toNat : Int) * 65536 + (c.toNat : Int) * 256) (by omega) (by omega) (by omega) (by omega) (by omega)]; omega
  rw [e0, e1, e2, e3, s1, s2, s3]
  omega

theorem bytes_four (s : ByteArray) (h : 4 ≤ s.size) : s.data.toList = s[0] :: s[1] :: s[2] :: s[3] :: s.data.toList.drop 4 := by
  have hl := size_list s
  have e (i : Nat) (hi : i < s.size) : s.data.toList[i]'(by omega) = s[i] := rfl
  have d (i : Nat) (hi : i < s.size) : s.data.toList.drop i = s[i] :: s.data.toList.drop (i + 1) := by
    rw [List.drop_eq_getElem_cons (by omega), e i hi]
  have := d 0 (by omega)
  rw [List.drop_zero] at this
  rw [this, d 1 (by omega), d 2 (by omega), d 3 (by omega)]
  simp

theorem big4_take (l : List UInt8) : big4 (l.take 4) = big4 l := by
  match l with
  | a :: b :: c :: d :: r => simp [big4]
  | [] => rfl
  | [_] => rfl
  | [_, _] => rfl
  | [_, _, _] => rfl

/-- The number that stands at place i. -/
def num (s : ByteArray) (i : Nat) : Nat := big4 (s.data.toList.drop i)

theorem num_lt (s : ByteArray) (i : Nat) : num s i < 4294967296 := big4_lt _

theorem num_cut (s : ByteArray) (i j : Nat) (hi : i + 4 = j) : big4 ((s.extract 0 j).extract i j).data.toList = num s i := by
  rw [extract_data, extract_data, num, Nat.sub_zero, List.drop_zero, List.drop_take, List.take_take, show j - i = 4 by omega, Nat.min_self, big4_take]

theorem size_cut (s : ByteArray) (i j : Nat) (h : j ≤ s.size) (hi : i + 4 = j) : ((s.extract 0 j).extract i j).size = 4 := by
  simp; omega

/-- What a frame's beginning says: how long its head is, its type, its bytes in all, its body, and what is wrong. -/
def headN (bare : Bool) : Nat := if bare then 4 else 5
def headT (s : ByteArray) (bare : Bool) : Nat := if bare then 0 else (s.data.toList.headD 0).toNat
def frameN (s : ByteArray) (bare : Bool) : Nat := headN bare - 4 + num s (headN bare - 4)
def frameB (s : ByteArray) (bare : Bool) : ByteArray := s.extract (headN bare) (frameN s bare)
def frameE (s : ByteArray) (bare : Bool) : Int :=
  if s.size < headN bare then 4
  else if num s (headN bare - 4) < 4 ∨ (bare = false ∧ headT s bare = 0) then 2
  else if 10004 < num s (headN bare - 4) then 3
  else if s.size < frameN s bare then 4
  else 0

theorem headT_lt (s : ByteArray) (bare : Bool) : headT s bare < 256 := by
  unfold headT; split
  · omega
  · exact (s.data.toList.headD 0).toNat_lt

theorem first_byte (s : ByteArray) (h : 5 ≤ s.size) (hx : 0 < (s.extract 0 5).size) : ((s.extract 0 5)[0]'hx).toNat = headT s false := by
  have hl : (s.extract 0 5).data.toList = s[0]'(by omega) :: s.data.toList.tail.take 4 := by
    rw [extract_data, bytes_four s (by omega)]; rfl
  have e : (s.extract 0 5)[0]'hx = s[0]'(by omega) := by
    have : (s.extract 0 5)[0]'hx = (s.extract 0 5).data.toList[0]'(by rw [size_list]; exact hx) := rfl
    rw [this]; simp only [hl]; rfl
  rw [e, headT, bytes_four s (by omega)]
  rfl

theorem cut_cut (s : ByteArray) (a n : Nat) : (s.extract 0 n).extract a n = s.extract a n := by
  apply bytes_ext
  rw [extract_data, extract_data, extract_data, Nat.sub_zero, List.drop_zero, List.drop_take, List.take_take, Nat.min_self]

theorem be4_cells' (n : Nat) (h : n ≤ 10004) : cellsOf (be4 n) = [.int .u8 ((n : Int) / 16777216), .int .u8 ((n : Int) / 65536 % 256), .int .u8 ((n : Int) / 256 % 256), .int .u8 ((n : Int) % 256)] := by
  have e (k : Nat) : (UInt8.ofNat k).toNat = k % 256 := by simp
  have e1 : ((n / 16777216 % 256 : Nat) : Int) = (n : Int) / 16777216 := by omega
  have e2 : ((n / 65536 % 256 : Nat) : Int) = (n : Int) / 65536 % 256 := by omega
  have e3 : ((n / 256 % 256 : Nat) : Int) = (n : Int) / 256 % 256 := by omega
  have e4 : ((n % 256 : Nat) : Int) = (n : Int) % 256 := by omega
  simp only [cellsOf, be4, List.map_cons, List.map_nil, e, e1, e2, e3, e4]

/-- A piece of the last block but one's follower, known whole, turned into a text. -/
theorem conv_cells {P : Program} {w : World} {src e dst : TypeId} (hs : P.underlying src = some (.slice e)) (he : P.underlying e = some (.int .u8)) (hd : P.underlying dst = some .string) (b o cap : Nat) (l : List UInt8)
    (h : ∀ i, i < l.length → w.cell? ⟨b, o + i, none⟩ = (cellsOf l)[i]?) : (convert src dst (.slice (some ⟨b, o, none⟩) l.length cap)).run P w = .ok (.string ⟨l.toArray⟩) w := by
  refine run_convert_whole w src e dst hs he hd b o ⟨l.toArray⟩ (fun i hi => ?_) cap
  have hi' : i < l.length := by simpa [← size_list] using hi
  rw [h i hi', cellsOf, List.getElem?_map, List.getElem?_eq_getElem hi']
  rfl

theorem conv_new {P : Program} {w : World} {src e dst : TypeId} (hs : P.underlying src = some (.slice e)) (he : P.underlying e = some (.int .u8)) (hd : P.underlying dst = some .string) (A : Obj) (C : Array Value) (T : TypeId) (o n cap : Nat) (l : List UInt8)
    (h : C.toList.drop o = cellsOf l) (hn : l.length = n) : (convert src dst (.slice (some ⟨w.heap.size + 1, o, none⟩) n cap)).run P ((w.alloc A).alloc (.cells C T)) = .ok (.string ⟨l.toArray⟩) ((w.alloc A).alloc (.cells C T)) := by
  subst hn
  refine conv_cells hs he hd _ o cap l (fun i _ => ?_)
  rw [World.cell?_alloc2_new, ← h, List.getElem?_drop]
  simp

/-- The first k bytes from place a on as a number. -/
def horner (s : ByteArray) (a k : Nat) : Nat := ((s.data.toList.drop a).take k).foldl (fun n b => 256 * n + b.toNat) 0

theorem horner_succ (s : ByteArray) (a k : Nat) (h : a + k < s.size) : horner s a (k + 1) = 256 * horner s a k + s[a + k].toNat := by
  unfold horner
  have hd : k < (s.data.toList.drop a).length := by rw [List.length_drop, size_list]; omega
  rw [List.take_succ_eq_append_getElem hd, List.foldl_append]
  simp only [List.foldl_cons, List.foldl_nil, List.getElem_drop]
  rfl

theorem horner_lt (s : ByteArray) (a : Nat) : ∀ k, k ≤ 4 → a + k ≤ s.size → horner s a k < 256 ^ k
  | 0, _, _ => by simp [horner]
  | k + 1, hk, hs => by
    have := horner_lt s a k (by omega) (by omega)
    rw [horner_succ s a k (by omega), Nat.pow_succ]
    have hb := (s[a + k]'(by omega)).toNat_lt
    omega

theorem horner_le (s : ByteArray) (a k : Nat) (h : k ≤ 4) (hs : a + k ≤ s.size) : horner s a k ≤ 4294967295 := by
  have h1 := horner_lt s a k h hs
  have h2 : 256 ^ k ≤ 256 ^ 4 := Nat.pow_le_pow_right (by omega) h
  omega

theorem horner_four (s : ByteArray) (a : Nat) (h : a + 4 ≤ s.size) : horner s a 4 = num s a := by
  have hl := size_list s
  have d (i : Nat) (hi : i < s.size) : s.data.toList.drop i = s[i] :: s.data.toList.drop (i + 1) := by
    rw [List.drop_eq_getElem_cons (by omega)]; rfl
  unfold horner num
  rw [d a (by omega), d (a + 1) (by omega), d (a + 1 + 1) (by omega), d (a + 1 + 1 + 1) (by omega)]
  simp only [List.take_succ_cons, List.take_zero, List.foldl_cons, List.foldl_nil, big4]
  omega
end Go.Proofs.YtmofnkinclckoaaGreatDoor

namespace Go.Proofs.YtmofnkinclckoaaGreatDoor
open Go.Lib Go.RowKit

theorem append_list (a b : ByteArray) : (a ++ b).data.toList = a.data.toList ++ b.data.toList := by simp

theorem append_size (a b : ByteArray) : (a ++ b).size = a.size + b.size := by simp

/-- Is a frame of this type bare? -/
def isBare (t : Int) : Bool := decide (t = 0)

theorem pack_split (t : Int) (l : List UInt8) : ∃ hd : List UInt8, packL t l = hd ++ be4 (l.length + 4) ++ l ∧ hd.length = headN (isBare t) - 4 ∧ (t = 0 → hd = []) ∧ (¬ t = 0 → hd = [UInt8.ofNat t.toNat]) := by
  refine ⟨_, rfl, ?_, fun h => if_pos h, fun h => if_neg h⟩
  by_cases h : t = 0 <;> simp [isBare, headN, h]

theorem num_pack (t : Int) (b : ByteArray) (r : List UInt8) (s : ByteArray) (hb : b.size ≤ 10000) (hs : s.data.toList = packL t b.data.toList ++ r) :
    num s (headN (isBare t) - 4) = b.size + 4 := by
  obtain ⟨hd, h1, h2, _, _⟩ := pack_split t b.data.toList
  unfold num
  rw [hs, h1, ← h2, List.append_assoc, List.append_assoc, List.drop_left, big4_be4 _ (by rw [size_list]; omega), size_list]

theorem frameN_pack (t : Int) (b : ByteArray) (r : List UInt8) (s : ByteArray) (hb : b.size ≤ 10000) (hs : s.data.toList = packL t b.data.toList ++ r) :
    frameN s (isBare t) = (packB t b).size := by
  unfold frameN
  rw [num_pack t b r s hb hs, packB_size]
  by_cases h : t = 0 <;> simp [isBare, headN, h] <;> omega

theorem headT_pack (t : Int) (ht : 0 ≤ t ∧ t < 256) (b : ByteArray) (r : List UInt8) (s : ByteArray) (hs : s.data.toList = packL t b.data.toList ++ r) :
    ((headT s (isBare t) : Nat) : Int) = t := by
  by_cases h : t = 0
  · simp [isBare, h, headT]
  · obtain ⟨hd, h1, _, _, h4⟩ := pack_split t b.data.toList
    have e : isBare t = false := by simp [isBare, h]
    rw [headT, e, if_neg (by simp), hs, h1, h4 h]
    simp
    omega

theorem good_pack (t : Int) (ht : 0 ≤ t ∧ t < 256) (b tail s : ByteArray) (hb : b.size ≤ 10000) (h : s = packB t b ++ tail) :
    frameE s (isBare t) = 0 ∧ ((headT s (isBare t) : Nat) : Int) = t ∧ frameB s (isBare t) = b ∧ s.extract (frameN s (isBare t)) s.size = tail := by
  have hs : s.data.toList = packL t b.data.toList ++ tail.data.toList := by rw [h, append_list, packB_list]
  have hN := frameN_pack t b _ s hb hs
  have hn := num_pack t b _ s hb hs
  have hT := headT_pack t ht b _ s hs
  have hz : s.size = (packB t b).size + tail.size := by rw [h, append_size]
  have hp := packB_size t b
  have hh : headN (isBare t) = if t = 0 then 4 else 5 := by by_cases h0 : t = 0 <;> simp [isBare, headN, h0]
  refine ⟨?_, hT, ?_, ?_⟩
  · unfold frameE
    rw [hn, hN]
    rw [if_neg (by rw [hh, hz, hp]; split <;> omega), if_neg ?_, if_neg (by omega), if_neg (by omega)]
    rintro (h1 | ⟨h1, h2⟩)
    · omega
    · have : ¬ t = 0 := by simpa [isBare] using h1
      omega
  · apply bytes_ext
    obtain ⟨hd, h1, h2, _, _⟩ := pack_split t b.data.toList
    unfold frameB
    have hl : (hd ++ be4 (b.data.toList.length + 4)).length = headN (isBare t) := by
      rw [List.length_append, h2, be4_length, hh]; split <;> omega
    rw [extract_data, hs, h1, List.append_assoc, ← hl, List.drop_left, hl, hN, hp, hh]
    have e : b.size + (if t = 0 then 4 else 5) - (if t = 0 then 4 else 5) = b.data.toList.length := by rw [size_list]; omega
    rw [e, List.take_left]
  · apply bytes_ext
    rw [extract_data, hs, hN, ← packB_list, ← size_list (packB t b), List.drop_left]
    apply List.take_of_length_le
    rw [size_list, size_list]
    omega

theorem num_take (s : ByteArray) (p : ByteArray) (n a : Nat) (h : p.data.toList = s.data.toList.take n) (hn : a + 4 ≤ n) : num p a = num s a := by
  unfold num
  rw [h, List.drop_take, ← big4_take, List.take_take, Nat.min_eq_left (by omega), big4_take]

theorem cut_pack (t : Int) (ht : 0 ≤ t ∧ t < 256) (b : ByteArray) (n : Nat) (hb : b.size ≤ 10000) (hn : n < (packB t b).size) :
    frameE ((packB t b).extract 0 n) (isBare t) = 4 := by
  have hl : ((packB t b).extract 0 n).data.toList = (packB t b).data.toList.take n := by rw [extract_data]; simp
  have hz : ((packB t b).extract 0 n).size = n := by rw [← size_list, hl, List.length_take, size_list]; omega
  have hh : headN (isBare t) = if t = 0 then 4 else 5 := by by_cases h0 : t = 0 <;> simp [isBare, headN, h0]
  have hp := packB_size t b
  unfold frameE
  rw [hz]
  by_cases h1 : n < headN (isBare t)
  · rw [if_pos h1]
  rw [if_neg h1]
  have hnum : num ((packB t b).extract 0 n) (headN (isBare t) - 4) = b.size + 4 := by
    rw [num_take (packB t b) _ n _ hl (by rw [hh] at h1 ⊢; by_cases h0 : t = 0 <;> simp [h0] at h1 ⊢ <;> omega)]
    exact num_pack t b [] (packB t b) hb (by rw [packB_list]; simp)
  have hN : frameN ((packB t b).extract 0 n) (isBare t) = (packB t b).size := by
    unfold frameN; rw [hnum, hp, hh]; split <;> omega
  rw [hnum, hN, if_neg ?_, if_neg (by omega), if_pos hn]
  rintro (h2 | ⟨h2, h3⟩)
  · omega
  · have h0 : ¬ t = 0 := by simpa [isBare] using h2
    have e : ((headT ((packB t b).extract 0 n) (isBare t) : Nat) : Int) = t := by
      refine Eq.trans ?_ (headT_pack t ht b [] (packB t b) (by rw [packB_list]; simp))
      have hc : 0 < n := by rw [hh] at h1; rw [if_neg h0] at h1; omega
      rw [h2]
      unfold headT
      rw [if_neg (by simp), if_neg (by simp), hl]
      obtain ⟨m, rfl⟩ : ∃ m, n = m + 1 := ⟨n - 1, by omega⟩
      cases (packB t b).data.toList with
      | nil => rfl
      | cons x r => rfl
    omega

/-- Two boxes of a caller's own, a third one laid before or behind a call that makes memory: what they hold behind the call. -/
theorem boxes_behind {w w3 w5 : World} {A B : Array Value} {S T : TypeId} (hq : Below (w.alloc (.cells A S)).heap.size (w.alloc (.cells A S)) w3) (hb : Below (w3.alloc (.cells B T)).drew.heap.size (w3.alloc (.cells B T)).drew w5) :
    (∀ i : Nat, w5.cell? ⟨w.heap.size, i, none⟩ = A[i]?) ∧ (∀ i : Nat, w5.cell? ⟨w3.heap.size, i, none⟩ = B[i]?) ∧ Below w.heap.size w w5 ∧ w3.heap.size < w5.heap.size := by
  have hz3 : w.heap.size < w3.heap.size := by have := hq.size; simp at this; omega
  have h1 : Below (w.alloc (.cells A S)).heap.size (w.alloc (.cells A S)) w5 := (hq.alloc (by simp; omega) _).drew.step hb (by simp; omega)
  have h2 : Below (w3.alloc (.cells B T)).heap.size (w3.alloc (.cells B T)) w5 := (Below.refl _ (w3.alloc (.cells B T))).drew.step hb (by simp)
  exact ⟨(one_box h1).1, (one_box h2).1, ((Below.refl _ _).alloc (Nat.le_refl _) _).step h1 (by simp), (one_box h2).2.2⟩

theorem boxes_before {w w3 w5 : World} {A B C : Array Value} {S T U : TypeId} (hq : Below (w.alloc (.cells A S)).heap.size (w.alloc (.cells A S)) w3) (hb : Below ((w3.alloc (.cells B T)).alloc (.cells C U)).drew.heap.size ((w3.alloc (.cells B T)).alloc (.cells C U)).drew w5) :
    (∀ i : Nat, w5.cell? ⟨w.heap.size, i, none⟩ = A[i]?) ∧ (∀ i : Nat, w5.cell? ⟨w3.heap.size, i, none⟩ = B[i]?) ∧ (∀ i : Nat, w5.cell? ⟨w3.heap.size + 1, i, none⟩ = C[i]?) ∧ (∀ i : Nat, w5.frozen? ⟨w3.heap.size + 1, i, none⟩ = false) ∧ Below w.heap.size w w5 ∧ w3.heap.size + 1 < w5.heap.size := by
  have hz3 : w.heap.size < w3.heap.size := by have := hq.size; simp at this; omega
  have h1 : Below (w.alloc (.cells A S)).heap.size (w.alloc (.cells A S)) w5 := ((hq.alloc (by simp; omega) _).alloc (by simp; omega) _).drew.step hb (by simp; omega)
  have h2 : Below (w3.alloc (.cells B T)).heap.size (w3.alloc (.cells B T)) w5 := ((Below.refl _ (w3.alloc (.cells B T))).alloc (Nat.le_refl _) _).drew.step hb (by simp)
  have h3 : Below ((w3.alloc (.cells B T)).alloc (.cells C U)).heap.size ((w3.alloc (.cells B T)).alloc (.cells C U)) w5 := (Below.refl _ ((w3.alloc (.cells B T)).alloc (.cells C U))).drew.step hb (by simp)
  have h4 := one_box h3
  simp only [World.size_alloc] at h4
  exact ⟨(one_box h1).1, (one_box h2).1, h4.1, h4.2.1, ((Below.refl _ _).alloc (Nat.le_refl _) _).step h1 (by simp), h4.2.2⟩
end Go.Proofs.YtmofnkinclckoaaGreatDoor
