/- Contracts and mathematics: Scan. -/
import Derived.Test.YtpijolcklmdjbaaGreatDoorZ19
import Derived.Deep.RegionLaw
import Derived.Deep.RegionHeld3
namespace Go.Proofs.YtpijolcklmdjbaaGreatDoor
open Go.RowKit Go.Lib Go.WideShapes

/-- Where tokens stands: the results' cells, the cursor at j, the row of the tokens so far. -/
structure TS (w wr : World) (s : ByteArray) (j : Nat) (v : Value) (acc : List Tok) : Prop where
  below : Below w.heap.size w wr
  res : wr.heap[w.heap.size]? = some (.cells #[v] 58 (0, 0))
  err : wr.heap[w.heap.size + 1]? = some (.cells #[.int .i64 0] 26 (0, 0))
  cur : Cur wr (w.heap.size + 1 + 1) s j
  row : wr.ownsRow w.heap.size 79 4 v acc.length (tokC acc)

section
variable {w wr w' : World} {s : ByteArray} {j k : Nat} {v : Value} {acc : List Tok}

theorem TS.apart (h : TS w wr s j v acc) {g : Nat} (hv : v.ownBlock = some g) : g ≠ w.heap.size ∧ g ≠ w.heap.size + 1 ∧ g ≠ w.heap.size + 1 + 1 := by
  have hg : ∃ cur, wr.heap[g]? = some (.cells cur 79 (0, 0)) := by
    rcases h.row.2 with ⟨ho, _⟩ | ⟨g', cap, cur, ho, _, hg, _⟩
    · rw [ho] at hv; cases hv
    · rw [ho] at hv; simp [Value.ownBlock] at hv; subst hv; exact ⟨cur, hg⟩
  obtain ⟨cur, hg⟩ := hg
  refine ⟨fun e => ?_, fun e => ?_, fun e => ?_⟩
  · rw [e, h.res] at hg; simp at hg
  · rw [e, h.err] at hg; simp at hg
  · rw [e, show wr.heap[w.heap.size + 1 + 1]? = _ from h.cur] at hg; simp at hg

theorem TS.lt (h : TS w wr s j v acc) : w.heap.size + 1 + 1 < wr.heap.size := h.cur.lt

/-- The cursor went on. -/
theorem TS.moved (h : TS w wr s j v acc) (hc : Cur w' (w.heap.size + 1 + 1) s k) (hg : wr.grownBy w' (some (w.heap.size + 1 + 1))) : TS w w' s k v acc := by
  have hlt := h.lt
  have hz := h.below.size
  have hb : ∀ i, i < wr.heap.size → i ≠ w.heap.size + 1 + 1 → w'.heap[i]? = wr.heap[i]? := fun i hi hne => hg.block i hi (fun e => hne (by simpa using e))
  refine ⟨⟨hg.os.trans h.below.os, hg.tape.trans h.below.tape, hg.output.trans h.below.output, Nat.le_trans hz hg.size, fun i hi => (hb i (by omega) (by omega)).trans (h.below.block i hi)⟩, (hb _ (by omega) (by omega)).trans h.res, (hb _ (by omega) (by omega)).trans h.err, hc, h.row.1, ?_⟩
  rcases h.row.2 with hn | ⟨g, cap, cur, ho, hbg, hgg, rest⟩
  · exact .inl hn
  · have ho2 : v.ownBlock = some g := by rw [ho]; rfl
    exact .inr ⟨g, cap, cur, ho, hbg, (hb g (Array.getElem?_eq_some_iff.1 hgg).1 (h.apart ho2).2.2).trans hgg, rest⟩

theorem TS.drewN (h : TS w wr s j v acc) (n : Nat) : TS w (wr.drewN n) s j v acc := ⟨below_drewN h.below n, h.res, h.err, h.cur, h.row⟩

theorem TS.cells (h : TS w wr s j v acc) : wr.cell? ⟨w.heap.size, 0, none⟩ = some v ∧ wr.cell? ⟨w.heap.size + 1, 0, none⟩ = some (.int .i64 0) ∧ wr.frozen? ⟨w.heap.size, 0, none⟩ = false ∧ wr.frozen? ⟨w.heap.size + 1, 0, none⟩ = false := by
  refine ⟨?_, ?_, ?_, ?_⟩
  · simp [World.cell?, h.res]
  · simp [World.cell?, h.err]
  · simp [World.frozen?, h.res]
  · simp [World.frozen?, h.err]

/-- A token more, stored. -/
theorem TS.feed {w1 : World} {v' : Value} {t : Tok} {x : Obj} (h : TS w wr s j v acc) (hO : w1.ownsRow w.heap.size 79 4 v' (acc.length + 1) (tokC acc ++ [.int .u8 (t.kind.toNat : Nat), .string ⟨t.text.toArray⟩, .int .i64 t.lo, .int .i64 t.hi])) (hg : (wr.alloc x).drew.grownBy w1 v.ownBlock) : TS w (w1.setCell ⟨w.heap.size, 0, none⟩ v') s j v' (acc ++ [t]) := by
  have hlt := h.lt
  have hz := h.below.size
  have hs := hg.size
  have hs1 : (wr.alloc x).drew.heap.size = wr.heap.size + 1 := by show (wr.alloc x).heap.size = _; rw [World.size_alloc]
  rw [hs1] at hs
  have hb : ∀ i, i < wr.heap.size → v.ownBlock ≠ some i → w1.heap[i]? = wr.heap[i]? := fun i hi hne => (hg.block i (by rw [hs1]; omega) (fun e => hne e.symm)).trans (by first | exact heap_alloc_old wr _ i hi | exact heap_alloc_old wr _ hi)
  have hres : w1.heap[w.heap.size]? = some (.cells #[v] 58 (0, 0)) := (hb _ (by omega) (fun e => (h.apart e).1 rfl)).trans h.res
  have herr : w1.heap[w.heap.size + 1]? = _ := (hb _ (by omega) (fun e => (h.apart e).2.1 rfl)).trans h.err
  have hcur : w1.heap[w.heap.size + 1 + 1]? = _ := (hb _ (by omega) (fun e => (h.apart e).2.2 rfl)).trans h.cur
  have hset : ∀ i, i ≠ w.heap.size → (w1.setCell ⟨w.heap.size, 0, none⟩ v').heap[i]? = w1.heap[i]? := fun i hi => Below.heap_setCell _ _ _ _ hi
  have hbel : Below w.heap.size w w1 := ⟨hg.os.trans h.below.os, hg.tape.trans h.below.tape, hg.output.trans h.below.output, by omega, fun i hi => (hb i (by omega) (fun e => by have := (h.row.lt i e).1; omega)).trans (h.below.block i hi)⟩
  refine ⟨hbel.setCell (Nat.le_refl _) _, ?_, (hset _ (by omega)).trans herr, (hset _ (by omega)).trans hcur, ?_⟩
  · rw [setCell_eq_setRow w1 w.heap.size 0 _ _ (0, 0) v' hres]
    exact setRow_heap w1 w.heap.size _ _ _ _ hres
  · rw [show (acc ++ [t]).length = acc.length + 1 by simp, tokC_snoc]
    refine ⟨hO.1, ?_⟩
    rcases hO.2 with hn | ⟨g, cap, cur, ho, hbg, hgg, rest⟩
    · exact .inl hn
    · right
      refine ⟨g, cap, cur, ho, hbg, (hset g (fun e => ?_)).trans hgg, rest⟩
      rw [e, hres] at hgg; simp at hgg
end

theorem TS.held {w wr w1 : World} {s : ByteArray} {j : Nat} {v : Value} {acc : List Tok} {x : Obj} (h : TS w wr s j v acc) (hg : (wr.alloc x).drew.grownBy w1 v.ownBlock) : w1.cell? ⟨w.heap.size, 0, none⟩ = some v ∧ w1.frozen? ⟨w.heap.size, 0, none⟩ = false ∧ w1.cell? ⟨w.heap.size + 1 + 1, 1, none⟩ = some (.int .i64 j) := by
  have hlt := h.lt
  have hs1 : (wr.alloc x).drew.heap.size = wr.heap.size + 1 := by show (wr.alloc x).heap.size = _; rw [World.size_alloc]
  have hb : w1.heap[w.heap.size]? = wr.heap[w.heap.size]? := (hg.block _ (by rw [hs1]; omega) (fun e => (h.apart e.symm).1 rfl)).trans (by first | exact heap_alloc_old wr _ _ (by omega) | exact heap_alloc_old wr _ (by omega))
  have hb2 : w1.heap[w.heap.size + 1 + 1]? = wr.heap[w.heap.size + 1 + 1]? := (hg.block _ (by rw [hs1]; omega) (fun e => (h.apart e.symm).2.2 rfl)).trans (by first | exact heap_alloc_old wr _ _ (by omega) | exact heap_alloc_old wr _ (by omega))
  exact ⟨(World.cell?_of_block (a := ⟨w.heap.size, 0, none⟩) hb).trans h.cells.1, (World.frozen?_of_block (a := ⟨w.heap.size, 0, none⟩) hb).trans h.cells.2.2.1, (World.cell?_of_block (a := ⟨w.heap.size + 1 + 1, 1, none⟩) hb2).trans h.cur.cell.2.1⟩

end Go.Proofs.YtpijolcklmdjbaaGreatDoor
