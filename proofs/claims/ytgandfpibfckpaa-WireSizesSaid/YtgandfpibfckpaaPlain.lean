/- Plain facts on bytes and on frames as bytes: no program is named here. -/
import Derived.WalkKit
import Derived.Lib.AppendStr
import Derived.Lib.SlBytesRow
import Derived.Lib.BufferRead
import Derived.Lib.Hide
namespace Go.Proofs.Ytgandfpibfckpaa
open Go.Lib Go.RowKit

theorem bcell {W w1 : World} (hb : Below W.heap.size W w1) : (∀ b o, b < W.heap.size → w1.cell? ⟨b, o, none⟩ = W.cell? ⟨b, o, none⟩) ∧ (∀ b o, b < W.heap.size → w1.frozen? ⟨b, o, none⟩ = W.frozen? ⟨b, o, none⟩) :=
  ⟨fun b o h => hb.cell (p := ⟨b, o, none⟩) h, fun b o h => hb.frozen (p := ⟨b, o, none⟩) h⟩

theorem _root_.Go.RowKit.Below.step {B : Nat} {a w w' : World} (h : Below B a w) (h' : Below w.heap.size w w') (hB : B ≤ w.heap.size) : Below B a w' := h.trans (h'.mono hB)

theorem two_boxes {w w' : World} {A B : Array Value} {S T : TypeId} (h : Below ((w.alloc (.cells A S)).alloc (.cells B T)).heap.size ((w.alloc (.cells A S)).alloc (.cells B T)) w') :
    (∀ i : Nat, w'.cell? ⟨w.heap.size, i, none⟩ = A[i]?) ∧ (∀ i : Nat, w'.cell? ⟨w.heap.size + 1, i, none⟩ = B[i]?) :=
  ⟨fun i => (h.cell (p := ⟨w.heap.size, i, none⟩) (by simp; omega)).trans (World.cell?_alloc2_first _ _ _ _), fun i => (h.cell (p := ⟨w.heap.size + 1, i, none⟩) (by simp)).trans (World.cell?_alloc2_new _ _ _ _)⟩

def cellsOf (l : List UInt8) : List Value := l.map fun b => Value.int .u8 b.toNat

theorem cellsOf_append (a b : List UInt8) : cellsOf (a ++ b) = cellsOf a ++ cellsOf b := by simp [cellsOf]
theorem cellsOf_length (a : List UInt8) : (cellsOf a).length = a.length := by simp [cellsOf]
theorem strCells_eq' (s : ByteArray) : strCells s = cellsOf s.data.toList := rfl
theorem cellsOf_one (l : List UInt8) : ∀ u ∈ cellsOf l, u.oneCell' = true := by
  intro u hu
  obtain ⟨b, _, rfl⟩ := List.mem_map.1 hu
  rfl

/-- A number as four bytes, the greatest first. -/
def be4 (n : Nat) : List UInt8 := [UInt8.ofNat (n / 16777216), UInt8.ofNat (n / 65536), UInt8.ofNat (n / 256), UInt8.ofNat n]

theorem be4_length (n : Nat) : (be4 n).length = 4 := rfl

theorem be4_cells (n : Nat) (h : n ≤ 10004) : cellsOf (be4 n) = [.int .u8 ((n : Int) / 16777216), .int .u8 ((n : Int) / 65536), .int .u8 ((n : Int) / 256), .int .u8 ((n : Int) % 256)] := by
  have e (k : Nat) : (UInt8.ofNat k).toNat = k % 256 := by simp
  have e1 : ((n / 16777216 % 256 : Nat) : Int) = (n : Int) / 16777216 := by omega
  have e2 : ((n / 65536 % 256 : Nat) : Int) = (n : Int) / 65536 := by omega
  have e3 : ((n / 256 % 256 : Nat) : Int) = (n : Int) / 256 := by omega
  have e4 : ((n % 256 : Nat) : Int) = (n : Int) % 256 := by omega
  simp only [cellsOf, be4, List.map_cons, List.map_nil, e, e1, e2, e3, e4]

/-- A frame as it stands. -/
def packL (t : Int) (l : List UInt8) : List UInt8 := (if t = 0 then [] else [UInt8.ofNat t.toNat]) ++ be4 (l.length + 4) ++ l
def packB (t : Int) (s : ByteArray) : ByteArray := ⟨(packL t s.data.toList).toArray⟩

theorem packB_list (t : Int) (s : ByteArray) : (packB t s).data.toList = packL t s.data.toList := rfl

theorem size_list (s : ByteArray) : s.data.toList.length = s.size := by simp

theorem packB_size (t : Int) (s : ByteArray) : (packB t s).size = s.size + (if t = 0 then 4 else 5) := by
  rw [← size_list, packB_list]
  unfold packL
  split <;> simp [be4] <;> omega

theorem ofNat_inj {a b : Int} (ha : 0 ≤ a ∧ a < 256) (hb : 0 ≤ b ∧ b < 256) (h : UInt8.ofNat a.toNat = UInt8.ofNat b.toNat) : a = b := by
  have := congrArg UInt8.toNat h
  simp at this
  omega

theorem bytes_ext {s t : ByteArray} (h : s.data.toList = t.data.toList) : s = t := ByteArray.ext (Array.toList_inj.1 h)

theorem packB_inj {a b : Int} {s t : ByteArray} (ha : 0 ≤ a ∧ a < 256) (hb : 0 ≤ b ∧ b < 256) (hz : a = 0 ↔ b = 0) (h : packB a s = packB b t) : a = b ∧ s = t := by
  have hl : packL a s.data.toList = packL b t.data.toList := congrArg (fun x : ByteArray => x.data.toList) h
  unfold packL at hl
  by_cases h0 : a = 0
  · have h1 := hz.1 h0
    rw [if_pos h0, if_pos h1] at hl
    simp only [be4, List.nil_append, List.cons_append, List.cons.injEq] at hl
    exact ⟨by omega, bytes_ext hl.2.2.2.2⟩
  · have h1 : ¬ b = 0 := fun e => h0 (hz.2 e)
    rw [if_neg h0, if_neg h1] at hl
    simp only [be4, List.nil_append, List.cons_append, List.cons.injEq] at hl
    exact ⟨ofNat_inj ha hb hl.1, bytes_ext hl.2.2.2.2.2⟩

theorem toList_eq (s : ByteArray) : s.toList = s.data.toList := by
  exact ByteArray.toList_eq s

theorem toList_inj {s t : ByteArray} (h : s.toList = t.toList) : s = t := bytes_ext (by rw [← toList_eq, ← toList_eq]; exact h)

/-- A []byte of the call's own that holds just the bytes of R, turned into a text. -/
theorem conv_owned {P : Program} {w : World} {base : Nat} {v : Value} {src e dst : TypeId} (R : ByteArray) (hs : P.underlying src = some (.slice e)) (he : P.underlying e = some (.int .u8)) (hd : P.underlying dst = some .string)
    (h : w.ownsRow base e 1 v R.size (strCells R)) : (convert src dst v).run P w = .ok (.string R) w := by
  obtain ⟨hl, h2⟩ := h
  rcases h2 with ⟨rfl, h0⟩ | ⟨g, cap, cur, rfl, hb, hg, hn, hm, hc, ht⟩
  · have hR : R = ByteArray.empty := by
      apply ByteArray.ext; apply Array.toList_inj.1
      have : R.data.toList.length = 0 := by rw [size_list]; exact h0
      simpa using List.eq_nil_of_length_eq_zero this
    subst hR
    exact run_convert_nil_bytes w src dst e 0 hs he hd
  · refine run_convert_whole w src e dst hs he hd g 0 R ?_ cap
    intro i hi
    rw [Nat.zero_add, cell_of_row w g i cur e (0, 0) hg]
    have hu : (strCells R)[i]? = some (.int .u8 (R[i].toNat : Int)) := by
      simp only [strCells, List.getElem?_map]
      have : R.data.toList[i]? = some R[i] := by
        rw [List.getElem?_eq_getElem (by rw [size_list]; exact hi)]; rfl
      rw [this]; rfl
    rw [← ht, List.getElem?_take] at hu
    split at hu
    · simpa using hu
    · cases hu
end Go.Proofs.Ytgandfpibfckpaa
