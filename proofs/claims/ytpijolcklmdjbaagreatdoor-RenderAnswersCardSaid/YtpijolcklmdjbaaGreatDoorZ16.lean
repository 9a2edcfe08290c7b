/- Contracts and mathematics: Quote. -/
import Derived.Test.YtpijolcklmdjbaaGreatDoorZ15
import Derived.Lib.BufferRead
import Derived.Deep.Cut
namespace Go.Proofs.YtpijolcklmdjbaaGreatDoor
open Go.RowKit Go.Lib Go.WideShapes

def byteC (l : Bs) : List Value := l.map fun b => Value.int .u8 (b.toNat : Int)
theorem byteC_snoc (l : Bs) (b : UInt8) : byteC (l ++ [b]) = byteC l ++ [.int .u8 (b.toNat : Int)] := by simp [byteC]

/-- The cursor in block p, and the row v of the bytes l, which the call made. -/
structure Q (w wr : World) (p : Nat) (s : ByteArray) (j : Nat) (v : Value) (l : Bs) : Prop where
  cur : Cur wr p s j
  grow : w.grownBy wr (some p)
  row : wr.ownsRow w.heap.size 5 1 v l.length (byteC l)
  lt : p < w.heap.size

section
variable {w wr : World} {p j : Nat} {s : ByteArray} {v : Value} {l : Bs}

theorem Q.start (h : Cur w p s j) : Q w w p s j (.slice none 0 0) [] := ⟨h, grow_refl _ _, World.ownsRow_nil _ _ _ _, h.lt⟩

theorem Q.drewN (h : Q w wr p s j v l) (n : Nat) : Q w (wr.drewN n) p s j v l := ⟨h.cur, grow_trans h.grow (grow_drewN _ _ _), h.row, h.lt⟩

theorem Q.set (h : Q w wr p s j v l) {z : Int} {k : Nat} (hz : z = (k : Int)) : Q w (wr.setCell ⟨p, 1, none⟩ (.int .i64 z)) p s k v l := by
  subst hz
  obtain ⟨h1, h2⟩ := h.cur.set k
  refine ⟨h1, grow_trans h.grow h2, ?_, h.lt⟩
  refine h.row.kept (row := some p) h2 ?_
  cases hv : v.ownBlock with
  | none => exact .inl rfl
  | some g => exact .inr (fun e => by have := (h.row.lt g hv).1; have := h.lt; simp at e; omega)

/-- A byte more. -/
theorem Q.feed (h : Q w wr p s j v l) {w1 : World} {v' : Value} {b : UInt8} {x : Obj} (hO : w1.ownsRow w.heap.size 5 1 v' (l.length + 1) (byteC l ++ [.int .u8 (b.toNat : Int)])) (hg : (wr.alloc x).grownBy w1 v.ownBlock) : Q w w1 p s j v' (l ++ [b]) := by
  have hz := h.grow.size
  have hp := h.cur.lt
  have hb : ∀ k, k < wr.heap.size → v.ownBlock ≠ some k → w1.heap[k]? = wr.heap[k]? := fun k hk hne => (hg.block k (by rw [World.size_alloc]; omega) (fun e => hne e.symm)).trans (by first | exact heap_alloc_old wr _ k hk | exact heap_alloc_old wr _ hk)
  have hs := hg.size
  rw [World.size_alloc] at hs
  refine ⟨(hb p hp (fun e => by have := (h.row.lt p e).1; have := h.lt; omega)).trans h.cur, ?_, by rw [List.length_append, byteC_snoc]; exact hO, h.lt⟩
  exact ⟨hg.os.trans h.grow.os, hg.tape.trans h.grow.tape, hg.output.trans h.grow.output, by omega, fun k hk hne => (hb k (by omega) (fun e => by have := (h.row.lt k e).1; omega)).trans (h.grow.block k hk hne)⟩

theorem Q.text (h : Q w wr p s j v l) : (convert 47 9 v).run Tryz.prog wr = .ok (.string ⟨l.toArray⟩) wr := by
  rcases h.row.2 with ⟨rfl, h0⟩ | ⟨g, cap, cur, rfl, hb, hg, hn, hc, hcs, ht⟩
  · rw [List.eq_nil_of_length_eq_zero h0]
    exact run_convert_nil_bytes wr _ _ _ 0 Tryz.underlying47 Tryz.underlying5 Tryz.underlying9
  · refine run_convert_bytes_back wr _ _ _ ⟨g, 0, none⟩ cap l Tryz.underlying47 Tryz.underlying5 Tryz.underlying9 fun k hk => ?_
    rw [Go.WideShapes.add_plain, Nat.zero_add]
    refine (h.row.cellAt k (by rw [Nat.mul_one]; exact hk)).trans ?_
    simp [byteC, List.getElem?_eq_getElem hk]

end

/-- What stood between marks is told, or it panics. -/
def OptQ (p : Nat) (s : ByteArray) (w : World) (R : Option (Bs × Bs)) (e : Ending) (w' : World) : Prop := (∀ t r, R = some (t, r) → Moved p s w (s.size - r.length) (.string ⟨t.toArray⟩) e w') ∧ (R = none → Stuck p s w e w')

theorem OptQ.some {p : Nat} {s : ByteArray} {w w' : World} {t r : Bs} {e : Ending} (h : Moved p s w (s.size - r.length) (.string ⟨t.toArray⟩) e w') : OptQ p s w (some (t, r)) e w' := ⟨fun _ _ hr => (by cases hr; exact h), fun hr => (by cases hr)⟩
theorem OptQ.none {p : Nat} {s : ByteArray} {w w' : World} {e : Ending} (h : Stuck p s w e w') : OptQ p s w .none e w' := ⟨fun _ _ hr => (by cases hr), fun _ => h⟩

/-- What is to come, with what was gathered. -/
def rest (m : Nat) (esc : Bool) (s : ByteArray) (j : Nat) (l : Bs) : Option (Bs × Bs) := (qt (UInt8.ofNat m) esc ((bytes s).drop j)).map fun q => (l ++ q.1, q.2)

theorem map_map (o : Option (Bs × Bs)) (l : Bs) (b : UInt8) : (o.map fun q => (b :: q.1, q.2)).map (fun q => (l ++ q.1, q.2)) = o.map fun q => ((l ++ [b]) ++ q.1, q.2) := by
  cases o <;> simp

section
variable {m j : Nat} {esc : Bool} {s : ByteArray} {l : Bs} (hm : m < 256)

include hm in
include hm in
include hm in
include hm in
end

end Go.Proofs.YtpijolcklmdjbaaGreatDoor
