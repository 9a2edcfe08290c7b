/- Contracts and mathematics: NNameM, Fold, Word. -/
import Derived.Test.YtpijolcklmdjbaaGreatDoorZ13
import Derived.Test.YtpijolcklmdjbaaGreatDoorZ8
import Derived.Lib.BufferRead
import Derived.Deep.Cut
import Derived.Test.YtpijolcklmdjbaaGreatDoorZ9
namespace Go.Proofs.YtpijolcklmdjbaaGreatDoor
open Go.RowKit Go.Lib Go.WideShapes

theorem below_drew {w w' : World} (h : ∃ n, w' = w.drewN n) : Below w.heap.size w w' := by
  obtain ⟨n, rfl⟩ := h
  exact below_drewN (Below.refl _ _) n

theorem indexByte_at (c : UInt8) (b : Bs) : ∀ a : Bs, c ∉ a → indexByte (a ++ c :: b) c = a.length := by
  intro a
  induction a with
  | nil => intro _; rw [List.nil_append, indexByte]; simp
  | cons x r ih =>
    intro h
    simp only [List.mem_cons, not_or] at h
    have hb : (x == c) = false := by simpa using fun e => h.1 (by rw [e])
    rw [List.cons_append, indexByte, hb, ih h.2]
    rw [if_neg (by simp), if_neg (by simp; try omega)]; simp

theorem cut_at {a : Bs} (h : (46 : UInt8) ∉ a) (b : Bs) : Lib.cut (a ++ 46 :: b) [46] = (a, b, true) := by
  unfold Lib.cut
  rw [Lib.index_one, indexByte_at 46 b a h, if_pos (by omega)]
  simp

theorem goodB_two {a : Bs} (h : (46 : UInt8) ∉ a) (b : Bs) : goodB (a ++ 46 :: b) = (decide (a.length + b.length ≤ 62) && (partB a && partB b)) := by
  unfold goodB
  rw [cut_at h]
  have : (a ++ 46 :: b).length = a.length + b.length + 1 := by simp; omega
  rw [this]
  congr 1
  exact decide_eq_decide.2 (by omega)

theorem partB_no (l : Bs) (c : UInt8) (hc : c ∈ l) (h1 : lowB c = false) (h2 : digB c = false) : partB l = false := by
  obtain ⟨i, hi, rfl⟩ := List.mem_iff_getElem.1 hc
  exact (partB_take l i hi).2 h1 h2
theorem partB_dot (l : Bs) (h : (46 : UInt8) ∈ l) : partB l = false := partB_no l 46 h (by decide) (by decide)
/-- What is no part, with a byte of none in it. -/
theorem partB_nodot {l : Bs} (h : partB l = true) : (46 : UInt8) ∉ l := fun hm => by rw [partB_dot l hm] at h; cases h

end Go.Proofs.YtpijolcklmdjbaaGreatDoor

namespace Go.Proofs.YtpijolcklmdjbaaGreatDoor
open Go.RowKit Go.Lib Go.WideShapes

def lowN (n : Nat) : Nat := (low (UInt8.ofNat n)).toNat

/-- The bytes of s in block g, those ahead of k folded. -/
structure Folds (w wr : World) (g : Nat) (s : ByteArray) (k : Nat) : Prop where
  below : Below w.heap.size w wr
  new : w.heap.size ≤ g
  cells : ∀ j, j < s.size → wr.cell? ⟨g, j, none⟩ = some (.int .u8 (if j < k then lowN (pb s j) else pb s j : Nat))
  free : ∀ j, j < s.size → wr.frozen? ⟨g, j, none⟩ = false

theorem fold_text (s : ByteArray) : ∀ j (hj : j < ((bytes s).map low).length), (((bytes s).map low)[j].toNat : Int) = (lowN (pb s j) : Nat) := by
  intro j hj
  rw [List.getElem_map]
  unfold lowN pb
  rw [List.length_map] at hj
  rw [List.getD, List.getElem?_eq_getElem hj]
  simp

theorem Folds.text {w wr : World} {g : Nat} {s : ByteArray} (h : Folds w wr g s s.size) (c : Nat) : (convert 47 9 (.slice (some ⟨g, 0, none⟩) s.size c)).run Tryz.prog wr = .ok (.string ⟨((bytes s).map low).toArray⟩) wr := by
  have := run_convert_bytes_back (P := Tryz.prog) wr 47 9 5 ⟨g, 0, none⟩ c ((bytes s).map low) Tryz.underlying47 Tryz.underlying5 Tryz.underlying9 (fun k hk => by
    rw [Go.WideShapes.add_plain, Nat.zero_add]
    have hk' : k < s.size := by rw [List.length_map, bytes_len] at hk; exact hk
    rw [h.cells k hk', if_pos hk', fold_text s k hk])
  rwa [List.length_map, bytes_len] at this

end Go.Proofs.YtpijolcklmdjbaaGreatDoor

namespace Go.Proofs.YtpijolcklmdjbaaGreatDoor
open Go.RowKit Go.Lib Go.WideShapes

/-- A string is told, and the cursor has gone on to j. -/
abbrev Told (p : Nat) (s : ByteArray) (w : World) (j : Nat) (t : ByteArray) (e : Ending) (w' : World) : Prop := Moved p s w j (.string t) e w'

end Go.Proofs.YtpijolcklmdjbaaGreatDoor
