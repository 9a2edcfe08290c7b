/- A message that a call makes for itself, its two rows growing: as it lies in memory. -/
import Derived.Test.YtfdffiphlpeegaaDoorDIs
namespace Go.Proofs.YtfdffiphlpeegaaDoor
open Go.RowKit Go.Lib Go.WideShapes

/-- A row of other cells than a block's lies in another block. -/
theorem own_not {w : World} {b n g : Nat} {e T : TypeId} {v : Value} {xs : List Value} {A : Array Value} (h : w.ownsRow b e 1 v n xs) (hg : w.heap[g]? = some (.cells A T (0, 0))) (hne : e ≠ T) : v.ownBlock ≠ some g := by
  rcases h.2 with ⟨hv, _⟩ | ⟨g', cap, cur, hv, _, hg', _⟩
  · rw [hv]; intro e; cases e
  · rw [hv]
    intro e'
    have e2 : g' = g := Option.some.inj e'
    subst e2
    rw [hg] at hg'
    injection hg' with hg'
    injection hg' with _ ht _
    exact hne ht.symm
theorem heap_setCell (w : World) (g i : Nat) (A : Array Value) (T : TypeId) (x : Value) (h : w.heap[g]? = some (.cells A T (0, 0))) : (w.setCell ⟨g, i, none⟩ x).heap[g]? = some (.cells (A.setIfInBounds i x) T (0, 0)) := by
  simp [World.setCell, Array.getElem?_modify, h]
theorem heap_setCell_other (w : World) (g k i : Nat) (x : Value) (h : k ≠ g) : (w.setCell ⟨g, i, none⟩ x).heap[k]? = w.heap[k]? := by
  simp [World.setCell, Array.getElem?_modify, Ne.symm h]
theorem own_setOther {w : World} {b n g i : Nat} {e : TypeId} {v x : Value} {xs : List Value} (h : w.ownsRow b e 1 v n xs) (hg : v.ownBlock ≠ some g) : (w.setCell ⟨g, i, none⟩ x).ownsRow b e 1 v n xs := by
  refine ⟨h.1, ?_⟩
  rcases h.2 with hv | ⟨g', cap, cur, hv, hb, hg', hr⟩
  · exact .inl hv
  · refine .inr ⟨g', cap, cur, hv, hb, ?_, hr⟩
    rw [heap_setCell_other _ _ _ _ _ (fun e => hg (by rw [hv, e]; rfl))]
    exact hg'

/-- A message in a block g, its rows from block b on. -/
structure Mob (b g : Nat) (w0 w : World) (c : Int) (T : List Bs) (N : List Int) (tv nv : Value) : Prop where
  below : Below b w0 w
  le : b ≤ g
  blk : w.heap[g]? = some (.cells #[.int .u8 c, tv, nv] 28 (0, 0))
  texts : w.ownsRow b 9 1 tv T.length (tcells T)
  nums : w.ownsRow b 3 1 nv N.length (ncells N)
section
variable {b g : Nat} {w0 w w1 : World} {c : Int} {T T' : List Bs} {N N' : List Int} {tv nv tv' nv' : Value}
theorem Mob.lt (h : Mob b g w0 w c T N tv nv) : g < w.heap.size := (Array.getElem?_eq_some_iff.1 h.blk).1
theorem Mob.c0 (h : Mob b g w0 w c T N tv nv) : w.cell? ⟨g, 0, none⟩ = some (.int .u8 c) := by simp [World.cell?, h.blk]
theorem Mob.c1 (h : Mob b g w0 w c T N tv nv) : w.cell? ⟨g, 1, none⟩ = some tv := by simp [World.cell?, h.blk]
theorem Mob.c2 (h : Mob b g w0 w c T N tv nv) : w.cell? ⟨g, 2, none⟩ = some nv := by simp [World.cell?, h.blk]
theorem Mob.fr (h : Mob b g w0 w c T N tv nv) (i : Nat) : w.frozen? ⟨g, i, none⟩ = false := by simp [World.frozen?, h.blk]
theorem Mob.notT (h : Mob b g w0 w c T N tv nv) : tv.ownBlock ≠ some g := own_not h.texts h.blk (by decide)
theorem Mob.notN (h : Mob b g w0 w c T N tv nv) : nv.ownBlock ≠ some g := own_not h.nums h.blk (by decide)
theorem Mob.drew (h : Mob b g w0 w c T N tv nv) : Mob b g w0 w.drew c T N tv nv := ⟨h.below.drew, h.le, h.blk, h.texts.drew, h.nums.drew⟩
theorem Mob.drewN (h : Mob b g w0 w c T N tv nv) (n : Nat) : Mob b g w0 (w.drewN n) c T N tv nv := ⟨below_drewN h.below n, h.le, h.blk, h.texts, h.nums⟩
/-- The world grew behind all. -/
theorem Mob.grow (h : Mob b g w0 w c T N tv nv) (hb : Below w.heap.size w w1) : Mob b g w0 w1 c T N tv nv :=
  ⟨h.below.step hb (Nat.le_trans h.le (Nat.le_of_lt h.lt)), h.le, (hb.block g h.lt).trans h.blk, own_grown h.texts hb (Nat.le_refl _), own_grown h.nums hb (Nat.le_refl _)⟩
theorem Mob.alloc (h : Mob b g w0 w c T N tv nv) (o : Obj) : Mob b g w0 (w.alloc o) c T N tv nv := h.grow ((Below.refl _ _).alloc (Nat.le_refl _) _)
/-- The row of texts grew. -/
theorem Mob.grewT (h : Mob b g w0 w c T N tv nv) (hg : w.grownBy w1 tv.ownBlock) (ht : w1.ownsRow b 9 1 tv' T'.length (tcells T')) : w1.heap[g]? = some (.cells #[.int .u8 c, tv, nv] 28 (0, 0)) ∧ Mob b g w0 (w1.setCell ⟨g, 1, none⟩ tv') c T' N tv' nv := by
  have hk : w1.heap[g]? = some (.cells #[.int .u8 c, tv, nv] 28 (0, 0)) := (hg.block g h.lt (fun e => h.notT e.symm)).trans h.blk
  have hn : w1.ownsRow b 3 1 nv N.length (ncells N) := h.nums.kept hg (own_apart h.texts h.nums string_ne_int)
  have hB : Below b w0 w1 := below_grown h.below (Nat.le_trans h.le (Nat.le_of_lt h.lt)) hg (fun q hq => (h.texts.lt q hq).1)
  exact ⟨hk, hB.setCell h.le _, h.le, heap_setCell _ _ _ _ _ _ hk, own_setOther ht (own_not ht hk (by decide)), own_setOther hn (own_not hn hk (by decide))⟩
theorem Mob.grewN (h : Mob b g w0 w c T N tv nv) (hg : w.grownBy w1 nv.ownBlock) (ht : w1.ownsRow b 3 1 nv' N'.length (ncells N')) : w1.heap[g]? = some (.cells #[.int .u8 c, tv, nv] 28 (0, 0)) ∧ Mob b g w0 (w1.setCell ⟨g, 2, none⟩ nv') c T N' tv nv' := by
  have hk : w1.heap[g]? = some (.cells #[.int .u8 c, tv, nv] 28 (0, 0)) := (hg.block g h.lt (fun e => h.notN e.symm)).trans h.blk
  have hn : w1.ownsRow b 9 1 tv T.length (tcells T) := h.texts.kept hg (own_apart h.nums h.texts string_ne_int.symm)
  have hB : Below b w0 w1 := below_grown h.below (Nat.le_trans h.le (Nat.le_of_lt h.lt)) hg (fun q hq => (h.nums.lt q hq).1)
  exact ⟨hk, hB.setCell h.le _, h.le, heap_setCell _ _ _ _ _ _ hk, own_setOther hn (own_not hn hk (by decide)), own_setOther ht (own_not ht hk (by decide))⟩
end
theorem own_past {w : World} {o : Obj} {b n : Nat} {e : TypeId} {v : Value} {xs : List Value} (h : w.ownsRow b e 1 v n xs) : (w.alloc o).ownsRow b e 1 v n xs := h.alloc o
/-- A message of one number, made. -/
theorem mob_new (w : World) (c n : Int) : Mob w.heap.size (w.heap.size + 1) w ((w.alloc (.cells #[.int .i64 n] 3)).alloc (.cells #[.int .u8 c, .slice none 0 0, .slice (some ⟨w.heap.size, 0, none⟩) 1 1] 28)) c [] [n] (.slice none 0 0) (.slice (some ⟨w.heap.size, 0, none⟩) 1 1) := by
  refine ⟨((Below.refl _ _).alloc (Nat.le_refl _) _).alloc (by simp) _, Nat.le_succ _, ?_, ⟨rfl, .inl ⟨rfl, rfl⟩⟩, ?_⟩
  · have h := heap_alloc_new (w.alloc (.cells #[.int .i64 n] 3)) (.cells #[.int .u8 c, .slice none 0 0, .slice (some ⟨w.heap.size, 0, none⟩) 1 1] 28)
    rw [World.size_alloc] at h
    exact h
  · refine own_past ⟨rfl, .inr ⟨w.heap.size, 1, #[.int .i64 n], rfl, Nat.le_refl _, heap_alloc_new w _, Nat.le_refl _, by decide, rfl, rfl⟩⟩
end Go.Proofs.YtfdffiphlpeegaaDoor
