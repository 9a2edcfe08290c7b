/- Contracts and mathematics: Plain, DM. -/
import Derived.WalkKit
import Derived.Test.YtfdffiphlpeegaaDoorZ7
import Derived.Lib.AppendStr
import Derived.Lib.SlBytesRow
import Derived.Lib.BufferRead
import Derived.Lib.Hide
import Derived.Lib.EndianBits
import Derived.Test.YtfdffiphlpeegaaDoorZ3
import Derived.Deep.Cut
namespace Go.Proofs.YtfdffiphlpeegaaDoor
open Go.Lib Go.RowKit

theorem bcell {W w1 : World} (hb : Below W.heap.size W w1) : (∀ b o, b < W.heap.size → w1.cell? ⟨b, o, none⟩ = W.cell? ⟨b, o, none⟩) ∧ (∀ b o, b < W.heap.size → w1.frozen? ⟨b, o, none⟩ = W.frozen? ⟨b, o, none⟩) :=
  ⟨fun b o h => hb.cell (p := ⟨b, o, none⟩) h, fun b o h => hb.frozen (p := ⟨b, o, none⟩) h⟩


theorem two_boxes {w w' : World} {A B : Array Value} {S T : TypeId} (h : Below ((w.alloc (.cells A S)).alloc (.cells B T)).heap.size ((w.alloc (.cells A S)).alloc (.cells B T)) w') :
    (∀ i : Nat, w'.cell? ⟨w.heap.size, i, none⟩ = A[i]?) ∧ (∀ i : Nat, w'.cell? ⟨w.heap.size + 1, i, none⟩ = B[i]?) :=
  ⟨fun i => (h.cell (p := ⟨w.heap.size, i, none⟩) (by simp; omega)).trans (World.cell?_alloc2_first _ _ _ _), fun i => (h.cell (p := ⟨w.heap.size + 1, i, none⟩) (by simp)).trans (World.cell?_alloc2_new _ _ _ _)⟩

theorem frozen_new (w : World) (A : Array Value) (T : TypeId) (i : Nat) : (w.alloc (.cells A T)).frozen? ⟨w.heap.size, i, none⟩ = false := by
  simp [go_sem]

theorem one_box {w w' : World} {A : Array Value} {T : TypeId} (h : Below (w.alloc (.cells A T)).heap.size (w.alloc (.cells A T)) w') :
    (∀ i : Nat, w'.cell? ⟨w.heap.size, i, none⟩ = A[i]?) ∧ (∀ i : Nat, w'.frozen? ⟨w.heap.size, i, none⟩ = false) ∧ w.heap.size < w'.heap.size :=
  ⟨fun i => (h.cell (p := ⟨w.heap.size, i, none⟩) (by simp)).trans (World.cell?_alloc_new _ _ _ _), fun i => (h.frozen (p := ⟨w.heap.size, i, none⟩) (by simp)).trans (frozen_new _ _ _ _), by have := h.size; simp at this; omega⟩


def cellsOf (l : List UInt8) : List Value := l.map fun b => Value.int .u8 b.toNat

theorem cellsOf_append (a b : List UInt8) : cellsOf (a ++ b) = cellsOf a ++ cellsOf b := by simp [cellsOf]
theorem cellsOf_length (a : List UInt8) : (cellsOf a).length = a.length := by simp [cellsOf]
theorem strCells_eq' (s : ByteArray) : strCells s = cellsOf s.data.toList := rfl
theorem cellsOf_one (l : List UInt8) : ∀ u ∈ cellsOf l, u.oneCell' = true := by
  intro u hu
  obtain ⟨b, _, rfl⟩ := List.mem_map.1 hu
  rfl

/-- A number as four bytes, the greatest first. -/
def be4 (n : Nat) : List UInt8 := [UInt8.ofNat (n / 16777216), UInt8.ofNat (n / 65536), UInt8.ofNat (n / 256), UInt8.ofNat n]

theorem be4_length (n : Nat) : (be4 n).length = 4 := rfl

theorem be4_cells (n : Nat) (h : n ≤ 10004) : cellsOf (be4 n) = [.int .u8 ((n : Int) / 16777216), .int .u8 ((n : Int) / 65536), .int .u8 ((n : Int) / 256), .int .u8 ((n : Int) % 256)] := by
  have e (k : Nat) : (UInt8.ofNat k).toNat = k % 256 := by simp
  have e1 : ((n / 16777216 % 256 : Nat) : Int) = (n : Int) / 16777216 := by omega
  have e2 : ((n / 65536 % 256 : Nat) : Int) = (n : Int) / 65536 := by omega
  have e3 : ((n / 256 % 256 : Nat) : Int) = (n : Int) / 256 := by omega
  have e4 : ((n % 256 : Nat) : Int) = (n : Int) % 256 := by omega
  simp only [cellsOf, be4, List.map_cons, List.map_nil, e, e1, e2, e3, e4]

/-- A frame as it stands. -/
def packL (t : Int) (l : List UInt8) : List UInt8 := (if t = 0 then [] else [UInt8.ofNat t.toNat]) ++ be4 (l.length + 4) ++ l
def packB (t : Int) (s : ByteArray) : ByteArray := ⟨(packL t s.data.toList).toArray⟩

theorem packB_list (t : Int) (s : ByteArray) : (packB t s).data.toList = packL t s.data.toList := rfl

theorem size_list (s : ByteArray) : s.data.toList.length = s.size := by simp

theorem packB_size (t : Int) (s : ByteArray) : (packB t s).size = s.size + (if t = 0 then 4 else 5) := by
  rw [← size_list, packB_list]
  unfold packL
  split <;> simp [be4] <;> omega

theorem ofNat_inj {a b : Int} (ha : 0 ≤ a ∧ a < 256) (hb : 0 ≤ b ∧ b < 256) (h : UInt8.ofNat a.toNat = UInt8.ofNat b.toNat) : a = b := by
  have := congrArg UInt8.toNat h
  simp at this
  omega

theorem bytes_ext {s t : ByteArray} (h : s.data.toList = t.data.toList) : s = t := ByteArray.ext (Array.toList_inj.1 h)

theorem packB_inj {a b : Int} {s t : ByteArray} (ha : 0 ≤ a ∧ a < 256) (hb : 0 ≤ b ∧ b < 256) (hz : a = 0 ↔ b = 0) (h : packB a s = packB b t) : a = b ∧ s = t := by
  have hl : packL a s.data.toList = packL b t.data.toList := congrArg (fun x : ByteArray => x.data.toList) h
  unfold packL at hl
  by_cases h0 : a = 0
  · have h1 := hz.1 h0
    rw [if_pos h0, if_pos h1] at hl
    simp only [be4, List.nil_append, List.cons_append, List.cons.injEq] at hl
    exact ⟨by omega, bytes_ext hl.2.2.2.2⟩
  · have h1 : ¬ b = 0 := fun e => h0 (hz.2 e)
    rw [if_neg h0, if_neg h1] at hl
    simp only [be4, List.nil_append, List.cons_append, List.cons.injEq] at hl
    exact ⟨ofNat_inj ha hb hl.1, bytes_ext hl.2.2.2.2.2⟩

theorem toList_eq (s : ByteArray) : s.toList = s.data.toList := by
  exact ByteArray.toList_eq s

theorem toList_inj {s t : ByteArray} (h : s.toList = t.toList) : s = t := bytes_ext (by rw [← toList_eq, ← toList_eq]; exact h)

/-- A []byte of the call's own that holds just the bytes of R, turned into a text. -/
theorem conv_str {P : Program} {w : World} {base : Nat} {v : Value} {src e dst : TypeId} (R : ByteArray) (hs : P.underlying src = some (.slice e)) (he : P.underlying e = some (.int .u8)) (hd : P.underlying dst = some .string)
    (h : w.ownsRow base e 1 v R.size (strCells R)) : (convert src dst v).run P w = .ok (.string R) w := by
  obtain ⟨hl, h2⟩ := h
  rcases h2 with ⟨rfl, h0⟩ | ⟨g, cap, cur, rfl, hb, hg, hn, hm, hc, ht⟩
  · have hR : R = ByteArray.empty := by
      apply ByteArray.ext; apply Array.toList_inj.1
      have : R.data.toList.length = 0 := by rw [size_list]; exact h0
      simpa using List.eq_nil_of_length_eq_zero this
    subst hR
    exact run_convert_nil_bytes w src dst e 0 hs he hd
  · refine run_convert_whole w src e dst hs he hd g 0 R ?_ cap
    intro i hi
    rw [Nat.zero_add, cell_of_row w g i cur e (0, 0) hg]
    have hu : (strCells R)[i]? = some (.int .u8 (R[i].toNat : Int)) := by
      simp only [strCells, List.getElem?_map]
      have : R.data.toList[i]? = some R[i] := by
        rw [List.getElem?_eq_getElem (by rw [size_list]; exact hi)]; rfl
      rw [this]; rfl
    rw [← ht, List.getElem?_take] at hu
    split at hu
    · simpa using hu
    · cases hu

/-- Four bytes as a number, the greatest first. -/
def big4 : List UInt8 → Nat
  | a :: b :: c :: d :: _ => a.toNat * 16777216 + b.toNat * 65536 + c.toNat * 256 + d.toNat
  | _ => 0

theorem big4_lt (l : List UInt8) : big4 l < 4294967296 := by
  match l with
  | a :: b :: c :: d :: r =>
    have := a.toNat_lt; have := b.toNat_lt; have := c.toNat_lt; have := d.toNat_lt
    simp only [big4]; omega
  | [] => simp [big4]
  | [_] => simp [big4]
  | [_, _] => simp [big4]
  | [_, _, _] => simp [big4]

theorem big4_be4 (n : Nat) (h : n < 4294967296) (l : List UInt8) : big4 (be4 n ++ l) = n := by
  simp [be4, big4]; omega

theorem or_swap (x y : Int) (h1 : 0 ≤ x) (h2 : x < 4294967296) (h3 : 0 ≤ y) (h4 : y < 4294967296) : bits .or .u32 x y = bits .or .u32 y x := by
  rw [u32_or x y h1 h2 h3 h4, u32_or y x h3 h4 h1 h2, Nat.or_comm]

theorem four_or (a b c d : UInt8) : bits .or .u32 (bits .or .u32 (bits .or .u32 ((a.toNat : Int) % 4294967296 * 16777216 % 4294967296) ((b.toNat : Int) % 4294967296 * 65536 % 4294967296)) ((c.toNat : Int) % 4294967296 * 256 % 4294967296)) ((d.toNat : Int) % 4294967296)
    = ((a.toNat * 16777216 + b.toNat * 65536 + c.toNat * 256 + d.toNat : Nat) : Int) := by
  have ha := a.toNat_lt; have hb := b.toNat_lt; have hc := c.toNat_lt; have hd := d.toNat_lt
  have e0 : (a.toNat : Int) % 4294967296 * 16777216 % 4294967296 = a.toNat * 16777216 := by omega
  have e1 : (b.toNat : Int) % 4294967296 * 65536 % 4294967296 = b.toNat * 65536 := by omega
  have e2 : (c.toNat : Int) % 4294967296 * 256 % 4294967296 = c.toNat * 256 := by omega
  have e3 : (d.toNat : Int) % 4294967296 = d.toNat := by omega
  have s1 : bits .or .u32 ((a.toNat : Int) * 16777216) ((b.toNat : Int) * 65536) = (a.toNat : Int) * 16777216 + (b.toNat : Int) * 65536 := by
    rw [or_swap _ _ (by omega) (by omega) (by omega) (by omega), u32_or24 (y := (b.toNat : Int) * 65536) (x := (a.toNat : Int) * 16777216) (by omega) (by omega) (by omega) (by omega) (by omega)]; omega
  have s2 : bits .or .u32 ((a.toNat : Int) * 16777216 + (b.toNat : Int) * 65536) ((c.toNat : Int) * 256) = (a.toNat : Int) * 16777216 + (b.toNat : Int) * 65536 + (c.toNat : Int) * 256 := by
    rw [or_swap _ _ (by omega) (by omega) (by omega) (by omega), u32_or16 (y := (c.toNat : Int) * 256) (x := (a.toNat : Int) * 16777216 + (b.toNat : Int) * 65536) (by omega) (by omega) (by omega) (by omega) (by omega)]; omega
  have s3 : bits .or .u32 ((a.toNat : Int) * 16777216 + (b.toNat : Int) * 65536 + (c.toNat : Int) * 256) (d.toNat : Int) = (a.toNat : Int) * 16777216 + (b.toNat : Int) * 65536 + (c.toNat : Int) * 256 + (d.toNat : Int) := by
    rw [or_swap _ _ (by omega) (by omega) (by omega) (by omega), u32_or8 (y := (d.toNat : Int)) (x := (a.toNat : Int) * 16777216 + (b.toNat : Int) * 65536 + (c.toNat : Int) * 256) (by omega) (by omega) (by omega) (by omega) (by omega)]; omega
  rw [e0, e1, e2, e3, s1, s2, s3]
  omega

theorem bytes_four (s : ByteArray) (h : 4 ≤ s.size) : s.data.toList = s[0] :: s[1] :: s[2] :: s[3] :: s.data.toList.drop 4 := by
  have hl := size_list s
  have e (i : Nat) (hi : i < s.size) : s.data.toList[i]'(by omega) = s[i] := rfl
  have d (i : Nat) (hi : i < s.size) : s.data.toList.drop i = s[i] :: s.data.toList.drop (i + 1) := by
    rw [List.drop_eq_getElem_cons (by omega), e i hi]
  have := d 0 (by omega)
  rw [List.drop_zero] at this
  rw [this, d 1 (by omega), d 2 (by omega), d 3 (by omega)]
  simp

theorem big4_take (l : List UInt8) : big4 (l.take 4) = big4 l := by
  match l with
  | a :: b :: c :: d :: r => simp [big4]
  | [] => rfl
  | [_] => rfl
  | [_, _] => rfl
  | [_, _, _] => rfl

/-- The number that stands at place i. -/
def num (s : ByteArray) (i : Nat) : Nat := big4 (s.data.toList.drop i)

theorem num_lt (s : ByteArray) (i : Nat) : num s i < 4294967296 := big4_lt _

theorem num_cut (s : ByteArray) (i j : Nat) (hi : i + 4 = j) : big4 ((s.extract 0 j).extract i j).data.toList = num s i := by
  rw [extract_data, extract_data, num, Nat.sub_zero, List.drop_zero, List.drop_take, List.take_take, show j - i = 4 by omega, Nat.min_self, big4_take]

theorem size_cut (s : ByteArray) (i j : Nat) (h : j ≤ s.size) (hi : i + 4 = j) : ((s.extract 0 j).extract i j).size = 4 := by
  simp; omega

/-- What a frame's beginning says: how long its head is, its type, its bytes in all, its body, and what is wrong. -/
def headN (bare : Bool) : Nat := if bare then 4 else 5
def headT (s : ByteArray) (bare : Bool) : Nat := if bare then 0 else (s.data.toList.headD 0).toNat
def frameN (s : ByteArray) (bare : Bool) : Nat := headN bare - 4 + num s (headN bare - 4)
def frameB (s : ByteArray) (bare : Bool) : ByteArray := s.extract (headN bare) (frameN s bare)
def frameE (s : ByteArray) (bare : Bool) : Int :=
  if s.size < headN bare then 4
  else if num s (headN bare - 4) < 4 ∨ (bare = false ∧ headT s bare = 0) then 2
  else if 10004 < num s (headN bare - 4) then 3
  else if s.size < frameN s bare then 4
  else 0

theorem headT_lt (s : ByteArray) (bare : Bool) : headT s bare < 256 := by
  unfold headT; split
  · omega
  · exact (s.data.toList.headD 0).toNat_lt

theorem first_byte (s : ByteArray) (h : 5 ≤ s.size) (hx : 0 < (s.extract 0 5).size) : ((s.extract 0 5)[0]'hx).toNat = headT s false := by
  have hl : (s.extract 0 5).data.toList = s[0]'(by omega) :: s.data.toList.tail.take 4 := by
    rw [extract_data, bytes_four s (by omega)]; rfl
  have e : (s.extract 0 5)[0]'hx = s[0]'(by omega) := by
    have : (s.extract 0 5)[0]'hx = (s.extract 0 5).data.toList[0]'(by rw [size_list]; exact hx) := rfl
    rw [this]; simp only [hl]; rfl
  rw [e, headT, bytes_four s (by omega)]
  rfl

theorem cut_cut (s : ByteArray) (a n : Nat) : (s.extract 0 n).extract a n = s.extract a n := by
  apply bytes_ext
  rw [extract_data, extract_data, extract_data, Nat.sub_zero, List.drop_zero, List.drop_take, List.take_take, Nat.min_self]

theorem be4_cells' (n : Nat) (h : n ≤ 10004) : cellsOf (be4 n) = [.int .u8 ((n : Int) / 16777216), .int .u8 ((n : Int) / 65536 % 256), .int .u8 ((n : Int) / 256 % 256), .int .u8 ((n : Int) % 256)] := by
  have e (k : Nat) : (UInt8.ofNat k).toNat = k % 256 := by simp
  have e1 : ((n / 16777216 % 256 : Nat) : Int) = (n : Int) / 16777216 := by omega
  have e2 : ((n / 65536 % 256 : Nat) : Int) = (n : Int) / 65536 % 256 := by omega
  have e3 : ((n / 256 % 256 : Nat) : Int) = (n : Int) / 256 % 256 := by omega
  have e4 : ((n % 256 : Nat) : Int) = (n : Int) % 256 := by omega
  simp only [cellsOf, be4, List.map_cons, List.map_nil, e, e1, e2, e3, e4]

/-- A piece of the last block but one's follower, known whole, turned into a text. -/
theorem conv_cells {P : Program} {w : World} {src e dst : TypeId} (hs : P.underlying src = some (.slice e)) (he : P.underlying e = some (.int .u8)) (hd : P.underlying dst = some .string) (b o cap : Nat) (l : List UInt8)
    (h : ∀ i, i < l.length → w.cell? ⟨b, o + i, none⟩ = (cellsOf l)[i]?) : (convert src dst (.slice (some ⟨b, o, none⟩) l.length cap)).run P w = .ok (.string ⟨l.toArray⟩) w := by
  refine run_convert_whole w src e dst hs he hd b o ⟨l.toArray⟩ (fun i hi => ?_) cap
  have hi' : i < l.length := by simpa [← size_list] using hi
  rw [h i hi', cellsOf, List.getElem?_map, List.getElem?_eq_getElem hi']
  rfl

theorem conv_new {P : Program} {w : World} {src e dst : TypeId} (hs : P.underlying src = some (.slice e)) (he : P.underlying e = some (.int .u8)) (hd : P.underlying dst = some .string) (A : Obj) (C : Array Value) (T : TypeId) (o n cap : Nat) (l : List UInt8)
    (h : C.toList.drop o = cellsOf l) (hn : l.length = n) : (convert src dst (.slice (some ⟨w.heap.size + 1, o, none⟩) n cap)).run P ((w.alloc A).alloc (.cells C T)) = .ok (.string ⟨l.toArray⟩) ((w.alloc A).alloc (.cells C T)) := by
  subst hn
  refine conv_cells hs he hd _ o cap l (fun i _ => ?_)
  rw [World.cell?_alloc2_new, ← h, List.getElem?_drop]
  simp

/-- The first k bytes from place a on as a number. -/
def horner (s : ByteArray) (a k : Nat) : Nat := ((s.data.toList.drop a).take k).foldl (fun n b => 256 * n + b.toNat) 0

theorem horner_succ (s : ByteArray) (a k : Nat) (h : a + k < s.size) : horner s a (k + 1) = 256 * horner s a k + s[a + k].toNat := by
  unfold horner
  have hd : k < (s.data.toList.drop a).length := by rw [List.length_drop, size_list]; omega
  rw [List.take_succ_eq_append_getElem hd, List.foldl_append]
  simp only [List.foldl_cons, List.foldl_nil, List.getElem_drop]
  rfl

theorem horner_lt (s : ByteArray) (a : Nat) : ∀ k, k ≤ 4 → a + k ≤ s.size → horner s a k < 256 ^ k
  | 0, _, _ => by simp [horner]
  | k + 1, hk, hs => by
    have := horner_lt s a k (by omega) (by omega)
    rw [horner_succ s a k (by omega), Nat.pow_succ]
    have hb := (s[a + k]'(by omega)).toNat_lt
    omega

theorem horner_le (s : ByteArray) (a k : Nat) (h : k ≤ 4) (hs : a + k ≤ s.size) : horner s a k ≤ 4294967295 := by
  have h1 := horner_lt s a k h hs
  have h2 : 256 ^ k ≤ 256 ^ 4 := Nat.pow_le_pow_right (by omega) h
  omega

theorem horner_four (s : ByteArray) (a : Nat) (h : a + 4 ≤ s.size) : horner s a 4 = num s a := by
  have hl := size_list s
  have d (i : Nat) (hi : i < s.size) : s.data.toList.drop i = s[i] :: s.data.toList.drop (i + 1) := by
    rw [List.drop_eq_getElem_cons (by omega)]; rfl
  unfold horner num
  rw [d a (by omega), d (a + 1) (by omega), d (a + 1 + 1) (by omega), d (a + 1 + 1 + 1) (by omega)]
  simp only [List.take_succ_cons, List.take_zero, List.foldl_cons, List.foldl_nil, big4]
  omega
end Go.Proofs.YtfdffiphlpeegaaDoor

namespace Go.Proofs.YtfdffiphlpeegaaDoor
open Go.RowKit Go.Lib Go.WideShapes

def tcells (T : List Bs) : List Value := T.map fun t => .string ⟨t.toArray⟩
def ncells (N : List Int) : List Value := N.map fun n => .int .i64 n
theorem tcells_length (T : List Bs) : (tcells T).length = T.length := by simp [tcells]
theorem ncells_length (N : List Int) : (ncells N).length = N.length := by simp [ncells]
theorem tcells_append (a b : List Bs) : tcells (a ++ b) = tcells a ++ tcells b := by simp [tcells]
theorem ncells_append (a b : List Int) : ncells (a ++ b) = ncells a ++ ncells b := by simp [ncells]

/-- A reader that was made behind w0. -/
structure DAt (w0 w : World) (s : RS) (tv nv : Value) : Prop where
  below : Below w0.heap.size w0 w
  lt : w0.heap.size < w.heap.size
  c0 : w.cell? ⟨w0.heap.size, 0, none⟩ = some (.string ⟨s.S.toArray⟩)
  c1 : w.cell? ⟨w0.heap.size, 1, none⟩ = some tv
  c2 : w.cell? ⟨w0.heap.size, 2, none⟩ = some nv
  f0 : w.frozen? ⟨w0.heap.size, 0, none⟩ = false
  f1 : w.frozen? ⟨w0.heap.size, 1, none⟩ = false
  f2 : w.frozen? ⟨w0.heap.size, 2, none⟩ = false
  texts : w.ownsRow (w0.heap.size + 1) 9 1 tv s.T.length (tcells s.T)
  nums : w.ownsRow (w0.heap.size + 1) 3 1 nv s.N.length (ncells s.N)
def IsD (w0 w : World) (s : RS) : Prop := ∃ tv nv, DAt w0 w s tv nv

/-- What an operation of a reader leaves. -/
def DOut (w0 : World) (r : Option RS) (e : Ending) (w' : World) : Prop := (∃ s', r = some s' ∧ e = .returned (.tuple #[]) ∧ IsD w0 w' s') ∨ (r = none ∧ Lost w0 e w')
def DOutN (w0 : World) (r : Option (Int × RS)) (e : Ending) (w' : World) : Prop := (∃ n s', r = some (n, s') ∧ e = .returned (.int .i64 n) ∧ IsD w0 w' s') ∨ (r = none ∧ Lost w0 e w')
def DOutS (w0 : World) (r : Option (Bs × RS)) (e : Ending) (w' : World) : Prop := (∃ b s', r = some (b, s') ∧ e = .returned (.string ⟨b.toArray⟩) ∧ IsD w0 w' s') ∨ (r = none ∧ Lost w0 e w')

theorem DAt.put0 {w0 w : World} {s : RS} {tv nv : Value} (h : DAt w0 w s tv nv) (S : Bs) : DAt w0 (w.setCell ⟨w0.heap.size, 0, none⟩ (.string ⟨S.toArray⟩)) { s with S := S } tv nv := by
  have n1 : (⟨w0.heap.size, 0, none⟩ : Addr) ≠ ⟨w0.heap.size, 1, none⟩ := by intro e; injection e with _ e; cases e
  have n2 : (⟨w0.heap.size, 0, none⟩ : Addr) ≠ ⟨w0.heap.size, 2, none⟩ := by intro e; injection e with _ e; cases e
  exact ⟨h.below.setCell (Nat.le_refl _) _, by rw [World.size_setCell]; exact h.lt, World.cell?_setCell_same _ _ _ h.c0, (World.cell?_setCell_other _ _ _ _ n1).trans h.c1, (World.cell?_setCell_other _ _ _ _ n2).trans h.c2, by rw [World.frozen?_setCell]; exact h.f0, by rw [World.frozen?_setCell]; exact h.f1, by rw [World.frozen?_setCell]; exact h.f2, own_other h.texts, own_other h.nums⟩
theorem DAt.drew {w0 w : World} {s : RS} {tv nv : Value} (h : DAt w0 w s tv nv) : DAt w0 w.drew s tv nv :=
  ⟨h.below.drew, h.lt, h.c0, h.c1, h.c2, h.f0, h.f1, h.f2, h.texts.drew, h.nums.drew⟩
theorem DAt.drewN {w0 w : World} {s : RS} {tv nv : Value} (h : DAt w0 w s tv nv) (n : Nat) : DAt w0 (w.drewN n) s tv nv :=
  ⟨below_drewN h.below n, h.lt, h.c0, h.c1, h.c2, h.f0, h.f1, h.f2, h.texts, h.nums⟩
/-- Two rows of other types lie in other blocks. -/
theorem own_apart {w : World} {b1 b2 : Nat} {e1 e2 : TypeId} {v1 v2 : Value} {n1 n2 : Nat} {xs1 xs2 : List Value} (h1 : w.ownsRow b1 e1 1 v1 n1 xs1) (h2 : w.ownsRow b2 e2 1 v2 n2 xs2) (hne : e1 ≠ e2) : v2.ownBlock = none ∨ v2.ownBlock ≠ v1.ownBlock := by
  rcases h2.2 with ⟨hv, _⟩ | ⟨g, cap, cur, hv, _, hg, _⟩
  · left; rw [hv]; rfl
  · right
    rcases h1.2 with ⟨hv1, _⟩ | ⟨g1, cap1, cur1, hv1, _, hg1, _⟩
    · rw [hv, hv1]; intro e; cases e
    · rw [hv, hv1]
      intro e
      have e' : g = g1 := Option.some.inj e
      subst e'
      rw [hg] at hg1
      injection hg1 with hg1
      injection hg1 with _ ht _
      exact hne ht.symm
/-- The world grew but for the row of texts: then the cell of the texts was written. -/
theorem DAt.put1 {w0 w w1 : World} {s : RS} {tv nv tv' : Value} {T : List Bs} (h : DAt w0 w s tv nv) (hB : Below (w0.heap.size + 1) w w1) (hb : w1.ownsRow (w0.heap.size + 1) 9 1 tv' T.length (tcells T)) (hn : w1.ownsRow (w0.heap.size + 1) 3 1 nv s.N.length (ncells s.N)) : DAt w0 (w1.setCell ⟨w0.heap.size, 1, none⟩ tv') { s with T := T } tv' nv := by
  have n0 : (⟨w0.heap.size, 1, none⟩ : Addr) ≠ ⟨w0.heap.size, 0, none⟩ := by intro e; injection e with _ e; cases e
  have n2 : (⟨w0.heap.size, 1, none⟩ : Addr) ≠ ⟨w0.heap.size, 2, none⟩ := by intro e; injection e with _ e; cases e
  have k : ∀ i, w1.cell? ⟨w0.heap.size, i, none⟩ = w.cell? ⟨w0.heap.size, i, none⟩ := fun i => hB.cell (p := ⟨w0.heap.size, i, none⟩) (Nat.lt_succ_self _)
  have f : ∀ i, w1.frozen? ⟨w0.heap.size, i, none⟩ = w.frozen? ⟨w0.heap.size, i, none⟩ := fun i => hB.frozen (p := ⟨w0.heap.size, i, none⟩) (Nat.lt_succ_self _)
  exact ⟨(h.below.trans (hB.mono (Nat.le_succ _))).setCell (Nat.le_refl _) _, by rw [World.size_setCell]; exact Nat.lt_of_lt_of_le h.lt hB.size, (World.cell?_setCell_other _ _ _ _ n0).trans ((k 0).trans h.c0), World.cell?_setCell_same _ _ _ ((k 1).trans h.c1), (World.cell?_setCell_other _ _ _ _ n2).trans ((k 2).trans h.c2), by rw [World.frozen?_setCell]; exact (f 0).trans h.f0, by rw [World.frozen?_setCell]; exact (f 1).trans h.f1, by rw [World.frozen?_setCell]; exact (f 2).trans h.f2, own_other hb, own_other hn⟩
theorem DAt.put2 {w0 w w1 : World} {s : RS} {tv nv nv' : Value} {N : List Int} (h : DAt w0 w s tv nv) (hB : Below (w0.heap.size + 1) w w1) (ht : w1.ownsRow (w0.heap.size + 1) 9 1 tv s.T.length (tcells s.T)) (hb : w1.ownsRow (w0.heap.size + 1) 3 1 nv' N.length (ncells N)) : DAt w0 (w1.setCell ⟨w0.heap.size, 2, none⟩ nv') { s with N := N } tv nv' := by
  have n0 : (⟨w0.heap.size, 2, none⟩ : Addr) ≠ ⟨w0.heap.size, 0, none⟩ := by intro e; injection e with _ e; cases e
  have n1 : (⟨w0.heap.size, 2, none⟩ : Addr) ≠ ⟨w0.heap.size, 1, none⟩ := by intro e; injection e with _ e; cases e
  have k : ∀ i, w1.cell? ⟨w0.heap.size, i, none⟩ = w.cell? ⟨w0.heap.size, i, none⟩ := fun i => hB.cell (p := ⟨w0.heap.size, i, none⟩) (Nat.lt_succ_self _)
  have f : ∀ i, w1.frozen? ⟨w0.heap.size, i, none⟩ = w.frozen? ⟨w0.heap.size, i, none⟩ := fun i => hB.frozen (p := ⟨w0.heap.size, i, none⟩) (Nat.lt_succ_self _)
  exact ⟨(h.below.trans (hB.mono (Nat.le_succ _))).setCell (Nat.le_refl _) _, by rw [World.size_setCell]; exact Nat.lt_of_lt_of_le h.lt hB.size, (World.cell?_setCell_other _ _ _ _ n0).trans ((k 0).trans h.c0), (World.cell?_setCell_other _ _ _ _ n1).trans ((k 1).trans h.c1), World.cell?_setCell_same _ _ _ ((k 2).trans h.c2), by rw [World.frozen?_setCell]; exact (f 0).trans h.f0, by rw [World.frozen?_setCell]; exact (f 1).trans h.f1, by rw [World.frozen?_setCell]; exact (f 2).trans h.f2, own_other ht, own_other hb⟩

theorem string_ne_int : 9 ≠ 3 := by decide

theorem DAt.rowT {w0 w w1 : World} {s : RS} {tv nv : Value} {o : Obj} (h : DAt w0 w s tv nv) (hg : (w.alloc o).grownBy w1 nv.ownBlock) : w1.ownsRow (w0.heap.size + 1) 9 1 tv s.T.length (tcells s.T) :=
  (h.texts.alloc o).kept hg (own_apart (h.nums.alloc o) (h.texts.alloc o) string_ne_int.symm)
theorem DAt.rowN {w0 w w1 : World} {s : RS} {tv nv : Value} {o : Obj} (h : DAt w0 w s tv nv) (hg : (w.alloc o).grownBy w1 tv.ownBlock) : w1.ownsRow (w0.heap.size + 1) 3 1 nv s.N.length (ncells s.N) :=
  (h.nums.alloc o).kept hg (own_apart (h.texts.alloc o) (h.nums.alloc o) string_ne_int)
theorem DAt.grewN {w0 w w1 : World} {s : RS} {tv nv : Value} {o : Obj} (h : DAt w0 w s tv nv) (hg : (w.alloc o).grownBy w1 nv.ownBlock) : Below (w0.heap.size + 1) w w1 :=
  below_grown ((Below.refl (w0.heap.size + 1) w).alloc h.lt _) (by rw [World.size_alloc]; exact Nat.le_succ_of_le h.lt) hg (fun q hq => (h.nums.lt q hq).1)
theorem DAt.grewT {w0 w w1 : World} {s : RS} {tv nv : Value} {o : Obj} (h : DAt w0 w s tv nv) (hg : (w.alloc o).grownBy w1 tv.ownBlock) : Below (w0.heap.size + 1) w w1 :=
  below_grown ((Below.refl (w0.heap.size + 1) w).alloc h.lt _) (by rw [World.size_alloc]; exact Nat.le_succ_of_le h.lt) hg (fun q hq => (h.texts.lt q hq).1)
theorem DAt.afterN {w0 w w1 : World} {s : RS} {tv nv : Value} (h : DAt w0 w s tv nv) (hB : Below (w0.heap.size + 1) w w1) : (w1.cell? ⟨w0.heap.size, 2, none⟩ = some nv ∧ w1.frozen? ⟨w0.heap.size, 2, none⟩ = false) ∧ (w1.cell? ⟨w0.heap.size, 1, none⟩ = some tv ∧ w1.frozen? ⟨w0.heap.size, 1, none⟩ = false) ∧ w0.heap.size < w1.heap.size :=
  ⟨⟨(hB.cell (p := ⟨w0.heap.size, 2, none⟩) (Nat.lt_succ_self _)).trans h.c2, (hB.frozen (p := ⟨w0.heap.size, 2, none⟩) (Nat.lt_succ_self _)).trans h.f2⟩, ⟨(hB.cell (p := ⟨w0.heap.size, 1, none⟩) (Nat.lt_succ_self _)).trans h.c1, (hB.frozen (p := ⟨w0.heap.size, 1, none⟩) (Nat.lt_succ_self _)).trans h.f1⟩, Nat.lt_of_lt_of_le h.lt hB.size⟩
/-- A world that left all up to the reader as it was, and its rows. -/
theorem DAt.grow {w0 w w' : World} {s : RS} {tv nv : Value} (h : DAt w0 w s tv nv) (hb : Below w.heap.size w w') : DAt w0 w' s tv nv := by
  have hb1 : Below (w0.heap.size + 1) w w' := hb.mono h.lt
  have k : ∀ i, w'.cell? ⟨w0.heap.size, i, none⟩ = w.cell? ⟨w0.heap.size, i, none⟩ := fun i => hb1.cell (p := ⟨w0.heap.size, i, none⟩) (Nat.lt_succ_self _)
  have f : ∀ i, w'.frozen? ⟨w0.heap.size, i, none⟩ = w.frozen? ⟨w0.heap.size, i, none⟩ := fun i => hb1.frozen (p := ⟨w0.heap.size, i, none⟩) (Nat.lt_succ_self _)
  exact ⟨h.below.trans (hb1.mono (Nat.le_succ _)), Nat.lt_of_lt_of_le h.lt hb.size, (k 0).trans h.c0, (k 1).trans h.c1, (k 2).trans h.c2, (f 0).trans h.f0, (f 1).trans h.f1, (f 2).trans h.f2, own_grown h.texts hb (Nat.le_refl _), own_grown h.nums hb (Nat.le_refl _)⟩

/-- How much there can be yet. -/
def droom (s : RS) : Nat := s.S.length + (s.T.length + s.N.length)

theorem take_list (S : Bs) (n : Nat) : (⟨S.toArray⟩ : ByteArray).extract 0 n = ⟨(S.take n).toArray⟩ := by
  apply ByteArray.ext; apply Array.toList_inj.1
  simp [ByteArray.data_extract]
theorem drop_list (S : Bs) (n : Nat) : (⟨S.toArray⟩ : ByteArray).extract n (⟨S.toArray⟩ : ByteArray).size = ⟨(S.drop n).toArray⟩ := by
  apply ByteArray.ext; apply Array.toList_inj.1
  rw [bsize]
  simp [ByteArray.data_extract, List.take_of_length_le]

/-- What taking leaves, the rows where they were. -/
def TakeAt (w0 : World) (tv nv : Value) (r : Option (Bs × RS)) (e : Ending) (w' : World) : Prop := (∃ b s', r = some (b, s') ∧ e = .returned (.string ⟨b.toArray⟩) ∧ DAt w0 w' s' tv nv) ∨ (r = none ∧ Lost w0 e w')
set_option maxRecDepth 100000 in
set_option maxHeartbeats 4000000 in
theorem take_at (w0 w : World) (s : RS) (tv nv : Value) (n : Nat) (hl : s.S.length ≤ 1000000) (hW : DAt w0 w s tv nv) :
    Calls Tryd.prog 63 #[.pointer (some ⟨w0.heap.size, 0, none⟩), .int .i64 n] w (TakeAt w0 tv nv (rTake n s)) := by
  have c0 := hW.c0
  have f0 := hW.f0
  have HW := Lib.hid hW
  clear hW
  by_cases hn : n ≤ s.S.length
  · have HR := Lib.hid (show rTake n s = some (s.S.take n, { s with S := s.S.drop n }) from if_pos hn)
    rw [HR.out]
    have HP := Lib.hid (HW.out.put0 (s.S.drop n))
    rw [← drop_list] at HP
    have HT := Lib.hid (take_list s.S n)
    obtain ⟨sb, hsb⟩ : ∃ sb : ByteArray, sb = ⟨s.S.toArray⟩ := ⟨_, rfl⟩
    have hsz : sb.size = s.S.length := by rw [hsb, bsize]
    rw [← hsb] at c0 HP HT
    have h1 : (n : Int) ≤ sb.size := by omega
    have h2 : sb.size ≤ 1000000 := by omega
    have HSZ := Lib.hid hsz
    clear hsb HR hn hl hsz
    go_enter Tryd.func63, Tryd.ntmps63
    go_wp2_with fail
    refine (demand_ok _).mono ?_; rintro e w1 ⟨rfl, rfl⟩
    go_wp2_with fail
    go_ret
    refine .inl ⟨_, _, rfl, by rw [← HT.out]; rfl, HP.out⟩
  · have HR := Lib.hid (show rTake n s = none from if_neg hn)
    rw [HR.out]
    obtain ⟨sb, hsb⟩ : ∃ sb : ByteArray, sb = ⟨s.S.toArray⟩ := ⟨_, rfl⟩
    have hsz : sb.size = s.S.length := by rw [hsb, bsize]
    rw [← hsb] at c0
    have h1 : ¬ (n : Int) ≤ sb.size := by omega
    have h3 : decide ((n : Int) ≤ sb.size) = false := decide_eq_false h1
    have HSZ := Lib.hid hsz
    clear hsb HR hn hl hsz
    go_enter Tryd.func63, Tryd.ntmps63
    go_wp2_with fail
    refine (demand_no _).mono ?_; rintro e w1 ⟨rfl, rfl⟩
    go_wp2_with fail
    exact ⟨rfl, .inr ⟨rfl, rfl, HW.out.below⟩⟩
theorem take_any (w0 w : World) (s : RS) (n : Nat) (hl : s.S.length ≤ 1000000) (h : IsD w0 w s) :
    Calls Tryd.prog 63 #[.pointer (some ⟨w0.heap.size, 0, none⟩), .int .i64 n] w (DOutS w0 (rTake n s)) := by
  obtain ⟨tv, nv, hW⟩ := h
  refine (take_at w0 w s tv nv n hl hW).mono ?_
  rintro e w' (⟨b, s', h1, h2, h3⟩ | ⟨h1, h2⟩)
  · exact .inl ⟨b, s', h1, h2, tv, nv, h3⟩
  · exact .inr ⟨h1, h2⟩
end Go.Proofs.YtfdffiphlpeegaaDoor
