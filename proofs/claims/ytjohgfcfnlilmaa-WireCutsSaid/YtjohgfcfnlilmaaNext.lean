/- The reader's Next: the frame that is next, or what is wrong. -/
import Derived.Test.YtjohgfcfnlilmaaRows
import Derived.Test.YtjohgfcfnlilmaaReader
import Derived.Deep.RegionWith
import Derived.Deep.RegionHeld3
import Derived.Deep.DeepCutAuto
namespace Go.Proofs.Ytjohgfcfnlilmaa
open Go.RowKit Go.Lib

/-- The reader's cells read so. -/
def Seen (w : World) (p : Nat) (v : Value) (bare : Bool) (e : Int) : Prop :=
  w.cell? ⟨p, 0, none⟩ = some v ∧ w.cell? ⟨p, 1, none⟩ = some (.bool bare) ∧ w.cell? ⟨p, 2, none⟩ = some (.int .i64 e)

theorem next_ended (p : Nat) (v : Value) (s : ByteArray) (bare : Bool) (er : Int) (w : World) (h : RIs w p v s bare er) (he : ¬ er = 0) :
    Calls Try.prog 20 #[.pointer (some ⟨p, 0, none⟩)] w fun e w' => e = .returned (.tuple #[.agg #[.int .u8 0, .string { data := #[] }], .int .i64 er]) ∧ Below w.heap.size w w' := by
  obtain ⟨c0, c1, c2⟩ := h.cell
  have hb : (er != 0) = true := by simpa using he
  have hp := h.lt
  clear h
  go_enter Try.func20, Try.ntmps20
  go_wp2
  go_region
  go_wp2
  refine bodyPost_ret (v := .tuple #[.agg #[.int .u8 0, .string { data := #[] }], .int .i64 er]) (by simp [results, Try.results20, go_sem]) rfl ⟨rfl, ?_⟩
  exact ((Below.refl _ _).alloc (Nat.le_refl _) _).drew

theorem Reads.grown {w w' : World} {v : Value} {s : ByteArray} (h : Reads w v s) (hb : Below w.heap.size w w') : Reads w' v s := by
  rcases h with h | ⟨g, o, cap, rfl, hc, hg, hl⟩
  · exact .inl h
  · exact .inr ⟨g, o, cap, rfl, hc, Nat.lt_of_lt_of_le hg hb.size, fun i hi => (hb.cell (p := ⟨g, o + i, none⟩) hg).trans (hl i hi)⟩

/-- What stands behind a call that makes memory, with a box laid ahead of it: the box, the reader's cells. -/
theorem next_behind {w w1 : World} {A : Array Value} {T : TypeId} {p : Nat} {x0 x1 x2 : Value} (hp : p < w.heap.size) (c0 : w.cell? ⟨p, 0, none⟩ = some x0) (c1 : w.cell? ⟨p, 1, none⟩ = some x1) (c2 : w.cell? ⟨p, 2, none⟩ = some x2)
    (hb : Below (w.alloc (.cells A T)).drew.heap.size (w.alloc (.cells A T)).drew w1) :
    Below w.heap.size w w1 ∧ w1.cell? ⟨p, 0, none⟩ = some x0 ∧ w1.cell? ⟨p, 1, none⟩ = some x1 ∧ w1.cell? ⟨p, 2, none⟩ = some x2 ∧ (∀ i : Nat, w1.cell? ⟨w.heap.size, i, none⟩ = A[i]?) ∧ (∀ i : Nat, w1.frozen? ⟨w.heap.size, i, none⟩ = false) ∧ w.heap.size < w1.heap.size ∧ p < w1.heap.size := by
  have h1 : Below (w.alloc (.cells A T)).heap.size (w.alloc (.cells A T)) w1 := (Below.refl _ (w.alloc (.cells A T))).drew.step hb (by simp)
  obtain ⟨h2, h3, h4⟩ := one_box h1
  have hB : Below w.heap.size w w1 := ((Below.refl _ _).alloc (Nat.le_refl _) _).step h1 (by simp)
  exact ⟨hB, (hB.cell (p := ⟨p, 0, none⟩) hp).trans c0, (hB.cell (p := ⟨p, 1, none⟩) hp).trans c1, (hB.cell (p := ⟨p, 2, none⟩) hp).trans c2, h2, h3, h4, by omega⟩

theorem next_before {w w1 : World} {A B : Array Value} {T U : TypeId} {p : Nat} {x0 x1 x2 : Value} (hp : p < w.heap.size) (c0 : w.cell? ⟨p, 0, none⟩ = some x0) (c1 : w.cell? ⟨p, 1, none⟩ = some x1) (c2 : w.cell? ⟨p, 2, none⟩ = some x2)
    (hb : Below ((w.alloc (.cells A T)).alloc (.cells B U)).drew.heap.size ((w.alloc (.cells A T)).alloc (.cells B U)).drew w1) :
    Below w.heap.size w w1 ∧ w1.cell? ⟨p, 0, none⟩ = some x0 ∧ w1.cell? ⟨p, 1, none⟩ = some x1 ∧ w1.cell? ⟨p, 2, none⟩ = some x2 ∧ (∀ i : Nat, w1.cell? ⟨w.heap.size, i, none⟩ = A[i]?) ∧ (∀ i : Nat, w1.frozen? ⟨w.heap.size, i, none⟩ = false) ∧ w.heap.size < w1.heap.size ∧ p < w1.heap.size ∧
      (∀ i : Nat, w1.cell? ⟨w.heap.size + 1, i, none⟩ = B[i]?) ∧ (∀ i : Nat, w1.frozen? ⟨w.heap.size + 1, i, none⟩ = false) ∧ w.heap.size + 1 < w1.heap.size := by
  have h1 : Below (w.alloc (.cells A T)).heap.size (w.alloc (.cells A T)) w1 := ((Below.refl _ (w.alloc (.cells A T))).alloc (Nat.le_refl _) _).drew.step hb (by simp)
  obtain ⟨h2, h3, h4⟩ := one_box h1
  have h5 : Below ((w.alloc (.cells A T)).alloc (.cells B U)).heap.size ((w.alloc (.cells A T)).alloc (.cells B U)) w1 := (Below.refl _ ((w.alloc (.cells A T)).alloc (.cells B U))).drew.step hb (by simp)
  have h6 := one_box h5
  simp only [World.size_alloc] at h6
  have hB : Below w.heap.size w w1 := ((Below.refl _ _).alloc (Nat.le_refl _) _).step h1 (by simp)
  exact ⟨hB, (hB.cell (p := ⟨p, 0, none⟩) hp).trans c0, (hB.cell (p := ⟨p, 1, none⟩) hp).trans c1, (hB.cell (p := ⟨p, 2, none⟩) hp).trans c2, h2, h3, h4, by omega, h6.1, h6.2.1, h6.2.2⟩

/-- What stands behind the reading of the next frame: it lies in block q; the result's block, and all that was there, as before. -/
def Behind (w : World) (T : Int) (B : ByteArray) (q : Nat) (wx : World) : Prop :=
  (∀ i : Nat, wx.cell? ⟨q, i, none⟩ = (#[.int .u8 T, .string B] : Array Value)[i]?) ∧ (∀ i : Nat, wx.cell? ⟨w.heap.size, i, none⟩ = (#[.int .u8 0, .string { data := #[] }] : Array Value)[i]?) ∧ (∀ i : Nat, wx.frozen? ⟨w.heap.size, i, none⟩ = false) ∧
    w.heap.size < q ∧ q < wx.heap.size ∧ Below w.heap.size w wx

theorem behind_new {w w1 : World} {T : Int} {B : ByteArray} (hB : Below w.heap.size w w1) (x : ∀ i : Nat, w1.cell? ⟨w.heap.size, i, none⟩ = (#[.int .u8 0, .string { data := #[] }] : Array Value)[i]?) (y : ∀ i : Nat, w1.frozen? ⟨w.heap.size, i, none⟩ = false) (hz : w.heap.size < w1.heap.size) :
    Behind w T B w1.heap.size (w1.alloc (.cells #[.int .u8 T, .string B] 23)) :=
  ⟨fun i => World.cell?_alloc_new _ _ _ _, fun i => (World.cell?_alloc_past _ _ _ hz).trans (x i), fun i => (World.frozen?_alloc_old _ _ ⟨w.heap.size, i, none⟩ (by simp; omega)).trans (y i), hz, by simp, hB.alloc (by omega) _⟩

theorem behind_old {w w1 : World} {T : Int} {B : ByteArray} (hB : Below w.heap.size w w1) (x : ∀ i : Nat, w1.cell? ⟨w.heap.size, i, none⟩ = (#[.int .u8 0, .string { data := #[] }] : Array Value)[i]?) (y : ∀ i : Nat, w1.frozen? ⟨w.heap.size, i, none⟩ = false) (hz : w.heap.size + 1 < w1.heap.size)
    (x' : ∀ i : Nat, w1.cell? ⟨w.heap.size + 1, i, none⟩ = (#[.int .u8 0, .string { data := #[] }] : Array Value)[i]?) :
    Behind w T B (w.heap.size + 1) ((w1.setCell ⟨w.heap.size + 1, 0, none⟩ (.int .u8 T)).setCell ⟨w.heap.size + 1, 1, none⟩ (.string B)) := by
  refine ⟨fun i => ?_, fun i => ?_, fun i => ?_, by omega, by simp [World.setCell]; omega, (hB.setCell (by simp) _).setCell (by simp) _⟩
  · match i with
    | 0 => simp [go_sem, x']
    | 1 => simp [go_sem, x']
    | n + 2 => simp [go_sem, x']
  · have := x i
    simp [go_sem, this]
  · have := y i
    simp [go_sem, this]

theorem RIs.grown {w w' : World} {p : Nat} {v : Value} {s : ByteArray} {b : Bool} {e : Int} (h : RIs w p v s b e) (hb : Below w.heap.size w w') : RIs w' p v s b e :=
  ⟨(hb.block p h.lt).trans h.heap, h.own.kept (fun k hk => hb.block k (h.own.lt k hk))⟩

/-- A store into one of the reader's cells. -/
theorem RIs.stored {w : World} {p : Nat} {v : Value} {s : ByteArray} {b : Bool} {e : Int} (h : RIs w p v s b e) (i : Nat) (x : Value) :
    (w.setCell ⟨p, i, none⟩ x).heap[p]? = some (.cells ((#[v, .bool b, .int .i64 e] : Array Value).setIfInBounds i x) 62 (0, 0)) ∧ (∀ k, k ≠ p → (w.setCell ⟨p, i, none⟩ x).heap[k]? = w.heap[k]?) := by
  refine ⟨?_, fun k hk => Below.heap_setCell _ _ _ _ hk⟩
  rw [setCell_eq_setRow w p i _ _ (0, 0) x h.heap]
  exact setRow_heap w p _ _ _ _ h.heap

theorem RIs.setBare {w : World} {p : Nat} {v : Value} {s : ByteArray} {b : Bool} {e : Int} (h : RIs w p v s b e) (b' : Bool) : RIs (w.setCell ⟨p, 1, none⟩ (.bool b')) p v s b' e :=
  ⟨(h.stored 1 (.bool b')).1, h.own.kept (fun k hk => (h.stored 1 (.bool b')).2 k (fun e => h.own.ne (by rw [hk, e])))⟩

/-- What Next leaves of a reader. -/
def Nexted (p : Nat) (v : Value) (s' : ByteArray) (b' : Bool) (e' : Int) (w w' : World) : Prop :=
  ∃ v', RIs w' p v' s' b' e' ∧ Turned w w' p none ∧ (∀ k, v'.ownBlock = some k → v.ownBlock = some k)

/-- The result's block is written behind all. -/
theorem nexted_end {w wx : World} {p h : Nat} {v v' : Value} {s' : ByteArray} {b' : Bool} {e' : Int} {x y : Value} (hR : RIs wx p v' s' b' e') (hT : Turned w wx p none) (hsub : ∀ k, v'.ownBlock = some k → v.ownBlock = some k) (hv : ∀ k, v.ownBlock = some k → k < w.heap.size) (hh : w.heap.size ≤ h) (hp : p < w.heap.size) :
    Nexted p v s' b' e' w ((wx.setCell ⟨h, 0, none⟩ x).setCell ⟨h, 1, none⟩ y) := by
  have ho : ∀ k, k ≠ h → ((wx.setCell ⟨h, 0, none⟩ x).setCell ⟨h, 1, none⟩ y).heap[k]? = wx.heap[k]? := fun k hk =>
    (Below.heap_setCell _ _ _ _ hk).trans (Below.heap_setCell _ _ _ _ hk)
  refine ⟨v', ⟨(ho p (by omega)).trans hR.heap, hR.own.kept (fun k hk => ho k (by have := hv k (hsub k hk); omega))⟩, ⟨hT.os, hT.tape, hT.output, by simpa [World.setCell] using hT.size, fun k hk hkp hkr => (ho k (by omega)).trans (hT.block k hk hkp hkr)⟩, hsub⟩

theorem wrong_end {w wc : World} {p : Nat} {v : Value} {s : ByteArray} {b : Bool} {x y : Value} {E : Int} (h : RIs w p v s b 0) (hB : Below w.heap.size w wc) :
    Nexted p v { data := #[] } b E w ((((wc.setCell ⟨p, 2, none⟩ (.int .i64 E)).setCell ⟨p, 0, none⟩ (.slice none 0 0)).setCell ⟨w.heap.size, 0, none⟩ x).setCell ⟨w.heap.size, 1, none⟩ y) := by
  have hR := h.grown hB
  have e1 : (wc.setCell ⟨p, 2, none⟩ (.int .i64 E)).heap[p]? = some (.cells #[v, .bool b, .int .i64 E] 62 (0, 0)) := (hR.stored 2 (.int .i64 E)).1
  have e2 : ((wc.setCell ⟨p, 2, none⟩ (.int .i64 E)).setCell ⟨p, 0, none⟩ (.slice none 0 0)).heap[p]? = some (.cells #[.slice none 0 0, .bool b, .int .i64 E] 62 (0, 0)) := by
    rw [setCell_eq_setRow _ p 0 _ _ (0, 0) _ e1]
    exact setRow_heap _ p _ _ _ _ e1
  refine nexted_end (v' := .slice none 0 0) ⟨e2, .inl ⟨rfl, rfl⟩⟩ ⟨hB.os, hB.tape, hB.output, by simpa [World.setCell] using hB.size, fun k hk hkp _ => ?_⟩ (by simp [Value.ownBlock]) h.own.lt (Nat.le_refl _) h.lt
  exact (Below.heap_setCell _ _ _ _ hkp).trans ((Below.heap_setCell _ _ _ _ hkp).trans (hB.block k hk))

/-- Behind the drop: what the rest of Next reads, and what it leaves. -/
theorem good_end {w wc w2 : World} {p q : Nat} {v v' : Value} {s s' : ByteArray} {b : Bool} {T : Int} {B : ByteArray} (h : RIs w p v s b 0) (hB : Below w.heap.size w wc) (hx : ∀ i : Nat, wc.cell? ⟨q, i, none⟩ = (#[.int .u8 T, .string B] : Array Value)[i]?) (hy : ∀ i : Nat, wc.cell? ⟨w.heap.size, i, none⟩ = (#[.int .u8 0, .string { data := #[] }] : Array Value)[i]?)
    (hyf : ∀ i : Nat, wc.frozen? ⟨w.heap.size, i, none⟩ = false) (hq1 : w.heap.size < q) (hq2 : q < wc.heap.size) (hR2 : RIs w2 p v' s' false 0) (hT2 : Turned (wc.setCell ⟨p, 1, none⟩ (.bool false)) w2 p none) (hs2 : ∀ k, v'.ownBlock = some k → v.ownBlock = some k) :
    (∀ i : Nat, w2.cell? ⟨q, i, none⟩ = (#[.int .u8 T, .string B] : Array Value)[i]?) ∧ (∀ i : Nat, w2.cell? ⟨w.heap.size, i, none⟩ = (#[.int .u8 0, .string { data := #[] }] : Array Value)[i]?) ∧ (∀ i : Nat, w2.frozen? ⟨w.heap.size, i, none⟩ = false) ∧
      Nexted p v s' false 0 w ((w2.setCell ⟨w.heap.size, 0, none⟩ (.int .u8 T)).setCell ⟨w.heap.size, 1, none⟩ (.string B)) := by
  have hp := h.lt
  have hz := hB.size
  have hk : ∀ k, k < wc.heap.size → k ≠ p → w2.heap[k]? = wc.heap[k]? := fun k hk hkp =>
    (hT2.block k (by simpa [World.setCell] using hk) hkp (by simp)).trans (Below.heap_setCell _ _ _ _ hkp)
  refine ⟨fun i => (World.cell?_of_block (a := ⟨q, i, none⟩) (hk q hq2 (by omega))).trans (hx i), fun i => (World.cell?_of_block (a := ⟨w.heap.size, i, none⟩) (hk w.heap.size (by omega) (by omega))).trans (hy i), fun i => (World.frozen?_of_block (a := ⟨w.heap.size, i, none⟩) (hk w.heap.size (by omega) (by omega))).trans (hyf i), ?_⟩
  refine nexted_end hR2 ⟨hT2.os.trans hB.os, hT2.tape.trans hB.tape, hT2.output.trans hB.output, ?_, fun k h1 hkp _ => (hk k (by omega) hkp).trans (hB.block k h1)⟩ hs2 h.own.lt (Nat.le_refl _) hp
  have := hT2.size
  simp [World.setCell] at this
  omega
end Go.Proofs.Ytjohgfcfnlilmaa
