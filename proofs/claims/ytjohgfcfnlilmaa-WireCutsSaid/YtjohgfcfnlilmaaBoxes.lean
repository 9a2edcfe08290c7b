/- Boxes and readers through calls. -/
import Derived.Test.YtjohgfcfnlilmaaRows
import Derived.Test.YtjohgfcfnlilmaaNext
namespace Go.Proofs.Ytjohgfcfnlilmaa
open Go.RowKit Go.Lib

theorem Turned.box {w w' : World} {p k : Nat} {row : Option Nat} {A : Array Value} (h : Turned w w' p row) (hA : ∀ i : Nat, w.cell? ⟨k, i, none⟩ = A[i]?) (hk : k < w.heap.size) (hp : k ≠ p) (hr : some k ≠ row) : ∀ i : Nat, w'.cell? ⟨k, i, none⟩ = A[i]? :=
  fun i => (World.cell?_of_block (a := ⟨k, i, none⟩) (h.block k hk hp hr)).trans (hA i)

theorem below_box {w w' : World} {k : Nat} {A : Array Value} (h : Below w.heap.size w w') (hA : ∀ i : Nat, w.cell? ⟨k, i, none⟩ = A[i]?) (hk : k < w.heap.size) : ∀ i : Nat, w'.cell? ⟨k, i, none⟩ = A[i]? :=
  fun i => (h.cell (p := ⟨k, i, none⟩) hk).trans (hA i)

theorem alloc_box {w : World} {k : Nat} {A : Array Value} {o : Obj} (hA : ∀ i : Nat, w.cell? ⟨k, i, none⟩ = A[i]?) (hk : k < w.heap.size) : ∀ i : Nat, (w.alloc o).cell? ⟨k, i, none⟩ = A[i]? :=
  fun i => (World.cell?_alloc_past _ _ _ hk).trans (hA i)

theorem RIs.alloc {w : World} {p : Nat} {v : Value} {s : ByteArray} {b : Bool} {e : Int} (h : RIs w p v s b e) (o : Obj) : RIs (w.alloc o) p v s b e :=
  h.grown ((Below.refl _ _).alloc (Nat.le_refl _) o)

theorem RIs.turned {w w' : World} {p q : Nat} {v : Value} {s : ByteArray} {b : Bool} {e : Int} {row : Option Nat} (h : RIs w p v s b e) (ht : Turned w w' q row) (hp : p ≠ q) (hr : some p ≠ row) (hv : ∀ k, v.ownBlock = some k → k ≠ q ∧ some k ≠ row) : RIs w' p v s b e :=
  ⟨(ht.block p h.lt hp hr).trans h.heap, h.own.kept (fun k hk => ht.block k (h.own.lt k hk) (hv k hk).1 (hv k hk).2)⟩

theorem two_readers (w : World) (b b' : Bool) :
    RIs ((w.alloc (.cells #[.slice none 0 0, .bool b, .int .i64 0] 62)).alloc (.cells #[.slice none 0 0, .bool b', .int .i64 0] 62)) w.heap.size (.slice none 0 0) { data := #[] } b 0 ∧
      RIs ((w.alloc (.cells #[.slice none 0 0, .bool b, .int .i64 0] 62)).alloc (.cells #[.slice none 0 0, .bool b', .int .i64 0] 62)) (w.heap.size + 1) (.slice none 0 0) { data := #[] } b' 0 := by
  refine ⟨⟨?_, .inl ⟨rfl, rfl⟩⟩, ⟨?_, .inl ⟨rfl, rfl⟩⟩⟩
  · rw [heap_alloc_old _ _ (by simp)]
    exact heap_alloc_new w _
  · have := heap_alloc_new (w.alloc (.cells #[.slice none 0 0, .bool b, .int .i64 0] 62)) (.cells #[.slice none 0 0, .bool b', .int .i64 0] 62)
    rw [World.size_alloc] at this
    exact this

theorem one_reader (w : World) (b : Bool) : RIs (w.alloc (.cells #[.slice none 0 0, .bool b, .int .i64 0] 62)) w.heap.size (.slice none 0 0) { data := #[] } b 0 :=
  ⟨heap_alloc_new w _, .inl ⟨rfl, rfl⟩⟩
end Go.Proofs.Ytjohgfcfnlilmaa
