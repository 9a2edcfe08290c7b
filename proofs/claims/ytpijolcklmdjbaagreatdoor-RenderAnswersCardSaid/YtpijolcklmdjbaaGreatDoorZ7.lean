/- Contracts and mathematics: MEnc, Plain, Pack. -/
import Derived.Test.YtpijolcklmdjbaaGreatDoorZ6
import Derived.WalkKit
import Derived.Lib.AppendStr
import Derived.Lib.SlBytesRow
import Derived.Lib.BufferRead
import Derived.Lib.Hide
import Derived.Lib.EndianBits
import Derived.Test.YtpijolcklmdjbaaGreatDoorRows
namespace Go.Proofs.YtpijolcklmdjbaaGreatDoor
open Go.RowKit Go.Lib Go.WideShapes

/-- What Encode answers for what is written: the frame's body, or why there is none. -/
def encE (r : Option Bs) : Int := match r with
  | none => 1
  | some B => if 10000 < B.length then 3 else 0
def encV (c : UInt8) (r : Option Bs) : Value := .tuple #[if encE r = 0 then .agg #[.int .u8 (c.toNat : Nat), .string ⟨(r.getD []).toArray⟩] else .agg #[.int .u8 0, .string { data := #[] }], .int .i64 (encE r)]

set_option maxRecDepth 100000 in
set_option maxHeartbeats 8000000 in
theorem encode_any (w : World) (back : Bool) (c : UInt8) (T : List Bs) (N : List Int) (tv nv : Value) (hT : TextsIn w tv T) (hN : NumsIn w nv N) (hr : room ⟨T, N, []⟩ ≤ 800000) :
    Calls Tryz.prog 38 #[.bool back, .agg #[.int .u8 (c.toNat : Nat), tv, nv]] w fun e w' => e = .returned (encV c (written back c T N)) ∧ Below w.heap.size w w' := by
  have HT := Lib.hid hT; have HN := Lib.hid hN
  obtain ⟨at', nt, ct, rfl, _⟩ := hT
  obtain ⟨an, nn, cn, rfl, _⟩ := hN
  obtain ⟨R, hR⟩ : ∃ R, R = written back c T N := ⟨_, rfl⟩
  rw [← hR]
  have HR := Lib.hid hR
  clear hR
  obtain ⟨W0, hW0⟩ : ∃ x, x = ((w.alloc (.cells #[.int .u8 (c.toNat : Nat), .slice at' nt ct, .slice an nn cn] 39)).alloc (.cells #[.int .u8 0, .string { data := #[] }] 33)) := ⟨_, rfl⟩
  have hsz : W0.heap.size = w.heap.size + 1 + 1 := by rw [hW0]; simp
  have HB := Lib.hid (show Below w.heap.size w W0 by rw [hW0]; exact ((Below.refl _ _).alloc (Nat.le_refl _) _).alloc (by simp) _)
  have HK := Lib.hid (show W0.cell? ⟨w.heap.size, 0, none⟩ = some (.int .u8 (c.toNat : Nat)) ∧ W0.cell? ⟨w.heap.size + 1, 0, none⟩ = some (.int .u8 0) ∧ W0.cell? ⟨w.heap.size + 1, 1, none⟩ = some (.string { data := #[] }) ∧ W0.frozen? ⟨w.heap.size + 1, 0, none⟩ = false ∧ W0.frozen? ⟨w.heap.size + 1, 1, none⟩ = false by rw [hW0]; simp [go_sem])
  have HF := Lib.hid (write_any W0 back c T N _ _ (HT.out.mono HB.out) (HN.out.mono HB.out) hr)
  rw [← HR.out] at HF
  have HE := Lib.hid hW0
  have HSZ := Lib.hid hsz
  clear hW0 hsz hr
  go_enter Tryz.func38, Tryz.ntmps38
  go_wp2_with fail
  rw [← HE.out]
  refine HF.out.mono ?_; rintro e w1 ⟨rfl, hB1⟩
  have kk := HK.out
  have b0 : w1.cell? ⟨w.heap.size, 0, none⟩ = some (.int .u8 (c.toNat : Nat)) := (hB1.cell (p := ⟨w.heap.size, 0, none⟩) (by show w.heap.size < _; rw [HSZ.out]; omega)).trans kk.1
  have b1 : w1.cell? ⟨w.heap.size + 1, 0, none⟩ = some (.int .u8 0) := (hB1.cell (p := ⟨w.heap.size + 1, 0, none⟩) (by show w.heap.size + 1 < _; rw [HSZ.out]; omega)).trans kk.2.1
  have b2 : w1.cell? ⟨w.heap.size + 1, 1, none⟩ = some (.string { data := #[] }) := (hB1.cell (p := ⟨w.heap.size + 1, 1, none⟩) (by show w.heap.size + 1 < _; rw [HSZ.out]; omega)).trans kk.2.2.1
  have b3 : w1.frozen? ⟨w.heap.size + 1, 0, none⟩ = false := (hB1.frozen (p := ⟨w.heap.size + 1, 0, none⟩) (by show w.heap.size + 1 < _; rw [HSZ.out]; omega)).trans kk.2.2.2.1
  have b4 : w1.frozen? ⟨w.heap.size + 1, 1, none⟩ = false := (hB1.frozen (p := ⟨w.heap.size + 1, 1, none⟩) (by show w.heap.size + 1 < _; rw [HSZ.out]; omega)).trans kk.2.2.2.2
  have HBB := Lib.hid (HB.out.trans (hB1.mono (by rw [HSZ.out]; omega)))
  clear kk hB1
  unfold writtenV
  cases R with
  | none =>
    go_wp2_with fail
    simp [bodyPost, results, Tryz.results38, go_sem, b1, b2, encV, encE]
    exact (HBB.out.setCell (by show w.heap.size ≤ w.heap.size + 1; omega) _).setCell (by show w.heap.size ≤ w.heap.size + 1; omega) _
  | some B =>
    by_cases hlong : 10000 < B.length
    · have hl' : (10000 : Int) < B.length := by omega
      go_wp2_with fail
      simp [bodyPost, results, Tryz.results38, go_sem, b1, b2, encV, encE, hlong]
      exact (HBB.out.setCell (by show w.heap.size ≤ w.heap.size + 1; omega) _).setCell (by show w.heap.size ≤ w.heap.size + 1; omega) _
    · have hl' : ¬ (10000 : Int) < B.length := by omega
      go_wp2_with fail
      simp [bodyPost, results, Tryz.results38, go_sem, b1, b2, encV, encE, hlong]
      exact (HBB.out.setCell (by show w.heap.size ≤ w.heap.size + 1; omega) _).setCell (by show w.heap.size ≤ w.heap.size + 1; omega) _
end Go.Proofs.YtpijolcklmdjbaaGreatDoor

namespace Go.Proofs.YtpijolcklmdjbaaGreatDoor
open Go.Lib Go.RowKit

theorem frozen_new (w : World) (A : Array Value) (T : TypeId) (i : Nat) : (w.alloc (.cells A T)).frozen? ⟨w.heap.size, i, none⟩ = false := by
  simp [go_sem]

theorem one_box {w w' : World} {A : Array Value} {T : TypeId} (h : Below (w.alloc (.cells A T)).heap.size (w.alloc (.cells A T)) w') :
    (∀ i : Nat, w'.cell? ⟨w.heap.size, i, none⟩ = A[i]?) ∧ (∀ i : Nat, w'.frozen? ⟨w.heap.size, i, none⟩ = false) ∧ w.heap.size < w'.heap.size :=
  ⟨fun i => (h.cell (p := ⟨w.heap.size, i, none⟩) (by simp)).trans (World.cell?_alloc_new _ _ _ _), fun i => (h.frozen (p := ⟨w.heap.size, i, none⟩) (by simp)).trans (frozen_new _ _ _ _), by have := h.size; simp at this; omega⟩


def cellsOf (l : List UInt8) : List Value := l.map fun b => Value.int .u8 b.toNat

theorem cellsOf_append (a b : List UInt8) : cellsOf (a ++ b) = cellsOf a ++ cellsOf b := by simp [cellsOf]
theorem strCells_eq' (s : ByteArray) : strCells s = cellsOf s.data.toList := rfl
/-- A number as four bytes, the greatest first. -/
def be4 (n : Nat) : List UInt8 := [UInt8.ofNat (n / 16777216), UInt8.ofNat (n / 65536), UInt8.ofNat (n / 256), UInt8.ofNat n]

theorem be4_length (n : Nat) : (be4 n).length = 4 := rfl

theorem be4_cells (n : Nat) (h : n ≤ 10004) : cellsOf (be4 n) = [.int .u8 ((n : Int) / 16777216), .int .u8 ((n : Int) / 65536), .int .u8 ((n : Int) / 256), .int .u8 ((n : Int) % 256)] := by
  have e (k : Nat) : (UInt8.ofNat k).toNat = k % 256 := by simp
  have e1 : ((n / 16777216 % 256 : Nat) : Int) = (n : Int) / 16777216 := by omega
  have e2 : ((n / 65536 % 256 : Nat) : Int) = (n : Int) / 65536 := by omega
  have e3 : ((n / 256 % 256 : Nat) : Int) = (n : Int) / 256 := by omega
  have e4 : ((n % 256 : Nat) : Int) = (n : Int) % 256 := by omega
  simp only [cellsOf, be4, List.map_cons, List.map_nil, e, e1, e2, e3, e4]

/-- A frame as it stands. -/
def packL (t : Int) (l : List UInt8) : List UInt8 := (if t = 0 then [] else [UInt8.ofNat t.toNat]) ++ be4 (l.length + 4) ++ l
def packB (t : Int) (s : ByteArray) : ByteArray := ⟨(packL t s.data.toList).toArray⟩

theorem packB_list (t : Int) (s : ByteArray) : (packB t s).data.toList = packL t s.data.toList := rfl

theorem size_list (s : ByteArray) : s.data.toList.length = s.size := by simp

theorem packB_size (t : Int) (s : ByteArray) : (packB t s).size = s.size + (if t = 0 then 4 else 5) := by
  rw [← size_list, packB_list]
  unfold packL
  split <;> simp [be4] <;> omega

theorem bytes_ext {s t : ByteArray} (h : s.data.toList = t.data.toList) : s = t := ByteArray.ext (Array.toList_inj.1 h)

theorem toList_eq (s : ByteArray) : s.toList = s.data.toList := by
  exact ByteArray.toList_eq s

theorem toList_inj {s t : ByteArray} (h : s.toList = t.toList) : s = t := bytes_ext (by rw [← toList_eq, ← toList_eq]; exact h)

/-- A []byte of the call's own that holds just the bytes of R, turned into a text. -/
theorem conv_str {P : Program} {w : World} {base : Nat} {v : Value} {src e dst : TypeId} (R : ByteArray) (hs : P.underlying src = some (.slice e)) (he : P.underlying e = some (.int .u8)) (hd : P.underlying dst = some .string)
    (h : w.ownsRow base e 1 v R.size (strCells R)) : (convert src dst v).run P w = .ok (.string R) w := by
  obtain ⟨hl, h2⟩ := h
  rcases h2 with ⟨rfl, h0⟩ | ⟨g, cap, cur, rfl, hb, hg, hn, hm, hc, ht⟩
  · have hR : R = ByteArray.empty := by
      apply ByteArray.ext; apply Array.toList_inj.1
      have : R.data.toList.length = 0 := by rw [size_list]; exact h0
      simpa using List.eq_nil_of_length_eq_zero this
    subst hR
    exact run_convert_nil_bytes w src dst e 0 hs he hd
  · refine run_convert_whole w src e dst hs he hd g 0 R ?_ cap
    intro i hi
    rw [Nat.zero_add, cell_of_row w g i cur e (0, 0) hg]
    have hu : (strCells R)[i]? = some (.int .u8 (R[i].toNat : Int)) := by
      simp only [strCells, List.getElem?_map]
      have : R.data.toList[i]? = some R[i] := by
        rw [List.getElem?_eq_getElem (by rw [size_list]; exact hi)]; rfl
      rw [this]; rfl
    rw [← ht, List.getElem?_take] at hu
    split at hu
    · simpa using hu
    · cases hu

/-- Four bytes as a number, the greatest first. -/
def big4 : List UInt8 → Nat
  | a :: b :: c :: d :: _ => a.toNat * 16777216 + b.toNat * 65536 + c.toNat * 256 + d.toNat
  | _ => 0

theorem big4_be4 (n : Nat) (h : n < 4294967296) (l : List UInt8) : big4 (be4 n ++ l) = n := by
  simp [be4, big4]; omega

theorem or_swap (x y : Int) (h1 : 0 ≤ x) (h2 : x < 4294967296) (h3 : 0 ≤ y) (h4 : y < 4294967296) : bits .or .u32 x y = bits .or .u32 y x := by
  rw [u32_or x y h1 h2 h3 h4, u32_or y x h3 h4 h1 h2, Nat.or_comm]

theorem four_or (a b c d : UInt8) : bits .or .u32 (bits .or .u32 (bits .or .u32 ((a.toNat : Int) % 4294967296 * 16777216 % 4294967296) ((b.toNat : Int) % 4294967296 * 65536 % 4294967296)) ((c.toNat : Int) % 4294967296 * 256 % 4294967296)) ((d.toNat : Int) % 4294967296)
    = ((a.toNat * 16777216 + b.toNat * 65536 + c.toNat * 256 + d.toNat : Nat) : Int) := by
  have ha := a.toNat_lt; have hb := b.toNat_lt; have hc := c.toNat_lt; have hd := d.toNat_lt
  have e0 : (a.toNat : Int) % 4294967296 * 16777216 % 4294967296 = a.toNat * 16777216 := by omega
  have e1 : (b.toNat : Int) % 4294967296 * 65536 % 4294967296 = b.toNat * 65536 := by omega
  have e2 : (c.toNat : Int) % 4294967296 * 256 % 4294967296 = c.toNat * 256 := by omega
  have e3 : (d.toNat : Int) % 4294967296 = d.toNat := by omega
  have s1 : bits .or .u32 ((a.toNat : Int) * 16777216) ((b.toNat : Int) * 65536) = (a.toNat : Int) * 16777216 + (b.toNat : Int) * 65536 := by
    rw [or_swap _ _ (by omega) (by omega) (by omega) (by omega), u32_or24 (y := (b.toNat : Int) * 65536) (x := (a.toNat : Int) * 16777216) (by omega) (by omega) (by omega) (by omega) (by omega)]; omega
  have s2 : bits .or .u32 ((a.toNat : Int) * 16777216 + (b.toNat : Int) * 65536) ((c.toNat : Int) * 256) = (a.toNat : Int) * 16777216 + (b.toNat : Int) * 65536 + (c.toNat : Int) * 256 := by
    rw [or_swap _ _ (by omega) (by omega) (by omega) (by omega), u32_or16 (y := (c.toNat : Int) * 256) (x := (a.toNat : Int) * 16777216 + (b.toNat : Int) * 65536) (by omega) (by omega) (by omega) (by omega) (by omega)]; omega
  have s3 : bits .or .u32 ((a.toNat : Int) * 16777216 + (b.toNat : Int) * 65536 + (c.toNat : Int) * 256) (d.toNat : Int) = (a.toNat : Int) * 16777216 + (b.toNat : Int) * 65536 + (c.toNat : Int) * 256 + (d.toNat : Int) := by
    rw [or_swap _ _ (by omega) (by omega) (by omega) (by omega), u32_or8 (y := (d.toNat : Int)) (x := (a.toNat : Int) * 16777216 + (b.toNat : Int) * 65536 + (c.toNat : Int) * 256) (by omega) (by omega) (by omega) (by omega) (by omega)]; omega
  rw [e0, e1, e2, e3, s1, s2, s3]
  omega

theorem bytes_four (s : ByteArray) (h : 4 ≤ s.size) : s.data.toList = s[0] :: s[1] :: s[2] :: s[3] :: s.data.toList.drop 4 := by
  have hl := size_list s
  have e (i : Nat) (hi : i < s.size) : s.data.toList[i]'(by omega) = s[i] := rfl
  have d (i : Nat) (hi : i < s.size) : s.data.toList.drop i = s[i] :: s.data.toList.drop (i + 1) := by
    rw [List.drop_eq_getElem_cons (by omega), e i hi]
  have := d 0 (by omega)
  rw [List.drop_zero] at this
  rw [this, d 1 (by omega), d 2 (by omega), d 3 (by omega)]
  simp

theorem big4_take (l : List UInt8) : big4 (l.take 4) = big4 l := by
  match l with
  | a :: b :: c :: d :: r => simp [big4]
  | [] => rfl
  | [_] => rfl
  | [_, _] => rfl
  | [_, _, _] => rfl

/-- The number that stands at place i. -/
def num (s : ByteArray) (i : Nat) : Nat := big4 (s.data.toList.drop i)

theorem num_cut (s : ByteArray) (i j : Nat) (hi : i + 4 = j) : big4 ((s.extract 0 j).extract i j).data.toList = num s i := by
  rw [extract_data, extract_data, num, Nat.sub_zero, List.drop_zero, List.drop_take, List.take_take, show j - i = 4 by omega, Nat.min_self, big4_take]

theorem size_cut (s : ByteArray) (i j : Nat) (h : j ≤ s.size) (hi : i + 4 = j) : ((s.extract 0 j).extract i j).size = 4 := by
  simp; omega

/-- What a frame's beginning says: how long its head is, its type, its bytes in all, its body, and what is wrong. -/
def headN (bare : Bool) : Nat := if bare then 4 else 5
def headT (s : ByteArray) (bare : Bool) : Nat := if bare then 0 else (s.data.toList.headD 0).toNat
def frameN (s : ByteArray) (bare : Bool) : Nat := headN bare - 4 + num s (headN bare - 4)
def frameB (s : ByteArray) (bare : Bool) : ByteArray := s.extract (headN bare) (frameN s bare)
def frameE (s : ByteArray) (bare : Bool) : Int :=
  if s.size < headN bare then 4
  else if num s (headN bare - 4) < 4 ∨ (bare = false ∧ headT s bare = 0) then 2
  else if 10004 < num s (headN bare - 4) then 3
  else if s.size < frameN s bare then 4
  else 0

theorem first_byte (s : ByteArray) (h : 5 ≤ s.size) (hx : 0 < (s.extract 0 5).size) : ((s.extract 0 5)[0]'hx).toNat = headT s false := by
  have hl : (s.extract 0 5).data.toList = s[0]'(by omega) :: s.data.toList.tail.take 4 := by
    rw [extract_data, bytes_four s (by omega)]; rfl
  have e : (s.extract 0 5)[0]'hx = s[0]'(by omega) := by
    have : (s.extract 0 5)[0]'hx = (s.extract 0 5).data.toList[0]'(by rw [size_list]; exact hx) := rfl
    rw [this]; simp only [hl]; rfl
  rw [e, headT, bytes_four s (by omega)]
  rfl

theorem cut_cut (s : ByteArray) (a n : Nat) : (s.extract 0 n).extract a n = s.extract a n := by
  apply bytes_ext
  rw [extract_data, extract_data, extract_data, Nat.sub_zero, List.drop_zero, List.drop_take, List.take_take, Nat.min_self]

end Go.Proofs.YtpijolcklmdjbaaGreatDoor

namespace Go.Proofs.YtpijolcklmdjbaaGreatDoor
open Go.RowKit Go.Lib

theorem infoU8M : (Tryz.prog.info? 5).map (fun i => (i.zero, i.size, i.bytes)) = some (some (.int .u8 0), 1, 1) := by kernel_rfl

theorem four_cells (w : World) (a b c d : Value) (T : TypeId) : ∀ j u, [a, b, c, d][j]? = some u → (w.alloc (.cells #[a, b, c, d] T)).cell? ((⟨w.heap.size, 0, none⟩ : Addr).add j) = some u := by
  intro j u hj
  match j, hj with
  | 0, hj => simp at hj; subst hj; simp [Addr.add, go_sem]
  | 1, hj => simp at hj; subst hj; simp [Addr.add, go_sem]
  | 2, hj => simp at hj; subst hj; simp [Addr.add, go_sem]
  | 3, hj => simp at hj; subst hj; simp [Addr.add, go_sem]
  | n + 4, hj => simp at hj

theorem one_cell (w : World) (a : Value) (T : TypeId) : ∀ j u, [a][j]? = some u → (w.alloc (.cells #[a] T)).cell? ((⟨w.heap.size, 0, none⟩ : Addr).add j) = some u := by
  intro j u hj
  match j, hj with
  | 0, hj => simp at hj; subst hj; simp [Addr.add, go_sem]
  | n + 1, hj => simp at hj

theorem ownsRow_is {w : World} {base : Nat} {e : TypeId} {v : Value} {n : Nat} {xs : List Value} (R : ByteArray) (h : w.ownsRow base e 1 v n xs) (hx : xs = strCells R) : w.ownsRow base e 1 v R.size (strCells R) := by
  subst hx
  have hn : n = R.size := by have := h.1; rw [strCells_length] at this; omega
  subst hn; exact h

theorem pack_cells (t : Int) (s : ByteArray) (hs : s.size ≤ 10000) (pre : List Value) (hp : pre = cellsOf (if t = 0 then [] else [UInt8.ofNat t.toNat])) :
    pre ++ [.int .u8 (((s.size : Int) + 4) / 16777216), .int .u8 (((s.size : Int) + 4) / 65536), .int .u8 (((s.size : Int) + 4) / 256), .int .u8 (((s.size : Int) + 4) % 256)] ++ strCells s = strCells (packB t s) := by
  rw [strCells_eq', strCells_eq', packB_list, packL, cellsOf_append, cellsOf_append, size_list, be4_cells _ (by omega), hp]
  simp

set_option maxRecDepth 100000 in
set_option maxHeartbeats 4000000 in
theorem pack_bare (s : ByteArray) (w : World) (hs : s.size ≤ 10000) :
    Calls Tryz.prog 39 #[.agg #[.int .u8 0, .string s]] w fun e w' => e = .returned (.tuple #[.string (packB 0 s), .int .i64 0]) ∧ Below w.heap.size w w' := by
  obtain ⟨i0, hi, hz0, hz1, hz2⟩ := info_parts infoU8M
  go_enter Tryz.func39, Tryz.ntmps39
  go_wp2_with (at_make; refine wpList_make_own _ rfl _ _ 47 rfl (w.heap.size + 1) 5 i0 (.int .u8 0) 1 Tryz.underlying47 hi hz0 hz1 _ _ _ (5 + s.size) rfl rfl ?bb ?b1 ?b2 ?b3 ?_)
  case bb => simp
  case b1 => rw [hz2]; omega
  case b2 => simp [maxLen]; omega
  case b3 => simp
  intro w1 hown hgrow
  have hc0 : w1.cell? ⟨w.heap.size, 0, none⟩ = some (.int .u8 0) := hgrow.cell (by simp [go_sem]) (by simp)
  have hc1 : w1.cell? ⟨w.heap.size, 1, none⟩ = some (.string s) := hgrow.cell (by simp [go_sem]) (by simp)
  have hB : Below w.heap.size w w1 := ((Below.refl _ _).alloc (Nat.le_refl _) _).grown hgrow (by simp) (by simp)
  have hz3 : w.heap.size + 1 < w1.heap.size := (hown.lt _ rfl).2
  clear hgrow
  go_wp2_with (at_builtin; refine wpList_append_own _ rfl (.tmp 28) (.tmp 40) 47 rfl (w.heap.size + 1) 5 i0 (.int .u8 0) 1 1 Tryz.underlying47 hi hz0 hz1 hz2 rfl (by decide) _ _ _ rfl (hown.alloc _) ⟨w1.heap.size, 0, none⟩ 4 4 [.int .u8 (((s.size : Int) + 4) / 16777216), .int .u8 (((s.size : Int) + 4) / 65536), .int .u8 (((s.size : Int) + 4) / 256), .int .u8 (((s.size : Int) + 4) % 256)] rfl rfl (four_cells _ _ _ _ _ _) (by simp [Value.oneCell']) (by unfold maxLen; omega) (by omega) (by simp; omega) ?_)
  intro v3 w3 hown3 hgrow3 _
  have hlt := (hown.lt)
  have hB3 : Below w.heap.size w w3 := (hB.alloc (by omega) _).grown hgrow3 (by simp; omega) (by intro k hk; have := (hlt k hk).1; omega)
  have hc13 : w3.cell? ⟨w.heap.size, 1, none⟩ = some (.string s) := hgrow3.cell ((World.cell?_alloc_past _ _ _ (by show w.heap.size < _; omega)).trans hc1) (by intro hk; have : w.heap.size + 1 ≤ w.heap.size := (hlt _ hk.symm).1; omega)
  have hz5 : w.heap.size + 1 < w3.heap.size := by have := hgrow3.size; simp at this; omega
  clear hgrow3 hlt hown hc0 hc1 hz3 hB
  go_wp2_with (at_builtin; refine wpList_append_own_string _ rfl (.tmp 42) (.tmp 44) 47 9 rfl (w.heap.size + 1) 5 i0 Tryz.underlying47 Tryz.underlying9 hi hz0 hz1 hz2 _ _ _ rfl hown3 s rfl (by unfold maxLen; omega) (by omega) (by omega) ?_)
  intro v4 w4 hown4 hgrow4 _
  have hlt := (hown3.lt)
  have hB4 : Below w.heap.size w w4 := hB3.grown hgrow4 (by omega) (by intro k hk; have := (hlt k hk).1; omega)
  have hconv := conv_str (P := Tryz.prog) (src := 47) (e := 5) (dst := 9) (packB 0 s) Tryz.underlying47 Tryz.underlying5 Tryz.underlying9 (ownsRow_is (packB 0 s) hown4 (by exact pack_cells 0 s hs [] (by simp [cellsOf])))
  clear hgrow4 hlt hown4 hown3 hB3 hz5 hc13
  go_wp2
  go_ret2
  exact ⟨rfl, hB4⟩

set_option maxRecDepth 100000 in
set_option maxHeartbeats 4000000 in
theorem pack_type (t : Int) (s : ByteArray) (w : World) (hs : s.size ≤ 10000) (h0 : 0 < t) (h1 : t < 256) :
    Calls Tryz.prog 39 #[.agg #[.int .u8 t, .string s]] w fun e w' => e = .returned (.tuple #[.string (packB t s), .int .i64 0]) ∧ Below w.heap.size w w' := by
  obtain ⟨i0, hi, hz0, hz1, hz2⟩ := info_parts infoU8M
  have htb : (t == 0) = false := by simp; omega
  have htn : (t != 0) = true := by simp; omega
  go_enter Tryz.func39, Tryz.ntmps39
  go_wp2_with (at_make; refine wpList_make_own _ rfl _ _ 47 rfl (w.heap.size + 1) 5 i0 (.int .u8 0) 1 Tryz.underlying47 hi hz0 hz1 _ _ _ (5 + s.size) rfl rfl ?bb ?b1 ?b2 ?b3 ?_)
  case bb => simp
  case b1 => rw [hz2]; omega
  case b2 => simp [maxLen]; omega
  case b3 => simp
  intro w1 hown hgrow
  have hc0 : w1.cell? ⟨w.heap.size, 0, none⟩ = some (.int .u8 t) := hgrow.cell (by simp [go_sem]) (by simp)
  have hc1 : w1.cell? ⟨w.heap.size, 1, none⟩ = some (.string s) := hgrow.cell (by simp [go_sem]) (by simp)
  have hB : Below w.heap.size w w1 := ((Below.refl _ _).alloc (Nat.le_refl _) _).grown hgrow (by simp) (by simp)
  have hz3 : w.heap.size + 1 < w1.heap.size := (hown.lt _ rfl).2
  clear hgrow
  go_wp2_with (at_builtin; refine wpList_append_own _ rfl (.tmp 23) (.tmp 26) 47 rfl (w.heap.size + 1) 5 i0 (.int .u8 0) 1 1 Tryz.underlying47 hi hz0 hz1 hz2 rfl (by decide) _ _ _ rfl (hown.alloc _) ⟨w1.heap.size, 0, none⟩ 1 1 [.int .u8 t] rfl rfl (one_cell _ _ _) (by simp [Value.oneCell']) (by unfold maxLen; omega) (by omega) (by simp; omega) ?_)
  intro v2 w2 hown2 hgrow2 _
  have hB2 : Below w.heap.size w w2 := (hB.alloc (by omega) _).grown hgrow2 (by simp; omega) (by intro k hk; simp [Value.ownBlock] at hk; omega)
  have hc02 : w2.cell? ⟨w.heap.size, 0, none⟩ = some (.int .u8 t) := hgrow2.cell ((World.cell?_alloc_past _ _ _ (by show w.heap.size < _; omega)).trans hc0) (by simp [Value.ownBlock])
  have hc12 : w2.cell? ⟨w.heap.size, 1, none⟩ = some (.string s) := hgrow2.cell ((World.cell?_alloc_past _ _ _ (by show w.heap.size < _; omega)).trans hc1) (by simp [Value.ownBlock])
  have hz4 : w.heap.size + 1 < w2.heap.size := by have := hgrow2.size; simp at this; omega
  clear hgrow2 hown hc0 hc1 hz3 hB
  go_wp2_with (at_builtin; refine wpList_append_own _ rfl (.tmp 28) (.tmp 40) 47 rfl (w.heap.size + 1) 5 i0 (.int .u8 0) 1 1 Tryz.underlying47 hi hz0 hz1 hz2 rfl (by decide) _ _ _ rfl (hown2.alloc _) ⟨w2.heap.size, 0, none⟩ 4 4 [.int .u8 (((s.size : Int) + 4) / 16777216), .int .u8 (((s.size : Int) + 4) / 65536), .int .u8 (((s.size : Int) + 4) / 256), .int .u8 (((s.size : Int) + 4) % 256)] rfl rfl (four_cells _ _ _ _ _ _) (by simp [Value.oneCell']) (by unfold maxLen; omega) (by omega) (by simp; omega) ?_)
  intro v3 w3 hown3 hgrow3 _
  have hlt := (hown2.lt)
  have hB3 : Below w.heap.size w w3 := (hB2.alloc (by omega) _).grown hgrow3 (by simp; omega) (by intro k hk; have := (hlt k hk).1; omega)
  have hc13 : w3.cell? ⟨w.heap.size, 1, none⟩ = some (.string s) := hgrow3.cell ((World.cell?_alloc_past _ _ _ (by show w.heap.size < _; omega)).trans hc12) (by intro hk; have : w.heap.size + 1 ≤ w.heap.size := (hlt _ hk.symm).1; omega)
  have hz5 : w.heap.size + 1 < w3.heap.size := by have := hgrow3.size; simp at this; omega
  clear hgrow3 hlt hown2 hc02 hc12 hz4 hB2
  go_wp2_with (at_builtin; refine wpList_append_own_string _ rfl (.tmp 42) (.tmp 44) 47 9 rfl (w.heap.size + 1) 5 i0 Tryz.underlying47 Tryz.underlying9 hi hz0 hz1 hz2 _ _ _ rfl hown3 s rfl (by unfold maxLen; omega) (by omega) (by omega) ?_)
  intro v4 w4 hown4 hgrow4 _
  have hlt := (hown3.lt)
  have hB4 : Below w.heap.size w w4 := hB3.grown hgrow4 (by omega) (by intro k hk; have := (hlt k hk).1; omega)
  have hconv := conv_str (P := Tryz.prog) (src := 47) (e := 5) (dst := 9) (packB t s) Tryz.underlying47 Tryz.underlying5 Tryz.underlying9 (ownsRow_is (packB t s) hown4 (by exact pack_cells t s hs [.int .u8 t] (by rw [if_neg (by omega)]; simp [cellsOf]; omega)))
  clear hgrow4 hlt hown4 hown3 hB3 hz5 hc13
  go_wp2
  go_ret2
  exact ⟨rfl, hB4⟩

end Go.Proofs.YtpijolcklmdjbaaGreatDoor
