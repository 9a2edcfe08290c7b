/- Who waits, told by the row that says when each joined: QueueOrder's mathematics; and a queue beside a row that is written in place. -/
import Derived.Test.YtcklfdpmggoafaaQW
namespace Go.Proofs.Ytcklfdpmggoafaa
open Go.RowKit Go.Lib Go.WideShapes Go.Maps

/-- The row xs says of each id under 20 one more than when it joined, nought if it does not wait; those that wait stand by when they joined; all joined before k. -/
structure Told (k : Nat) (xs : List Int) (L : Waits) : Prop where
  len : xs.length = 20
  rises : (L.map (·.2)).Pairwise (· < ·)
  row : ∀ q ∈ L, 0 ≤ q.2 ∧ q.2 < k ∧ ∃ i : Nat, i < 20 ∧ q.1 = i ∧ xs[i]? = some (q.2 + 1)
  all : ∀ (i : Nat) (x : Int), xs[i]? = some x → x = 0 ∨ ((i : Int), x - 1) ∈ L

theorem Told.start : Told 0 (List.replicate 20 0) [] := by
  refine ⟨by simp, by simp, by simp, fun i x h => .inl ?_⟩
  rw [List.getElem?_replicate] at h
  split at h <;> simp_all

theorem Told.more {k : Nat} {xs : List Int} {L : Waits} (h : Told k xs L) : Told (k + 1) xs L :=
  ⟨h.len, h.rises, fun q hq => by obtain ⟨a, b, c⟩ := h.row q hq; exact ⟨a, by omega, c⟩, h.all⟩

theorem Told.nodup {k : Nat} {xs : List Int} {L : Waits} (h : Told k xs L) : (L.map (·.1)).Nodup := by
  rw [List.nodup_iff_pairwise_ne, List.pairwise_map]
  have h2 := h.rises
  rw [List.pairwise_map] at h2
  refine List.Pairwise.imp_of_mem ?_ h2
  intro a b ha hb hlt he
  obtain ⟨_, _, i, _, ea, xa⟩ := h.row a ha
  obtain ⟨_, _, j, _, eb, xb⟩ := h.row b hb
  have : i = j := by omega
  subst this
  rw [xa] at xb
  simp at xb
  omega

theorem Told.range {k : Nat} {xs : List Int} {L : Waits} (h : Told k xs L) {i : Nat} {x : Int} (hx : xs[i]? = some x) : 0 ≤ x ∧ x ≤ k := by
  rcases h.all i x hx with rfl | hm
  · omega
  · obtain ⟨a, b, _⟩ := h.row _ hm
    simp only at a b; omega

theorem Told.look {k : Nat} {xs : List Int} {L : Waits} (h : Told k xs L) {i : Nat} {x : Int} (hx : xs[i]? = some x) : look L (i : Int) = if x = 0 then none else some (x - 1) := by
  by_cases h0 : x = 0
  · rw [if_pos h0, look_none]
    intro hm
    obtain ⟨q, hq, e⟩ := List.mem_map.1 hm
    obtain ⟨a, b, j, _, ej, xj⟩ := h.row q hq
    have : j = i := by omega
    subst this
    rw [hx] at xj
    simp at xj
    omega
  · rw [if_neg h0]
    exact look_mem h.nodup ((h.all i x hx).resolve_left h0)

theorem Told.join {k : Nat} {xs : List Int} {L : Waits} (h : Told k xs L) {i : Nat} (hx : xs[i]? = some 0) : Told (k + 1) (xs.set i ((k : Int) + 1)) (L ++ [((i : Int), (k : Int))]) := by
  have hi : i < xs.length := (List.getElem?_eq_some_iff.1 hx).1
  have hi' := h.len
  refine ⟨by rw [List.length_set]; exact h.len, ?_, ?_, ?_⟩
  · rw [List.map_append]
    refine List.pairwise_append.2 ⟨h.rises, by simp, fun a ha b hb => ?_⟩
    obtain ⟨q, hq, rfl⟩ := List.mem_map.1 ha
    simp at hb
    have := (h.row q hq).2.1; omega
  · intro q hq
    rcases List.mem_append.1 hq with hq | hq
    · obtain ⟨a, b, j, hj, ej, xj⟩ := h.row q hq
      refine ⟨a, by omega, j, hj, ej, ?_⟩
      rw [List.getElem?_set_ne]
      · exact xj
      · rintro rfl
        rw [hx] at xj; simp at xj; omega
    · simp at hq; subst hq
      refine ⟨by simp only; omega, by simp only; omega, i, by omega, rfl, ?_⟩
      rw [List.getElem?_set_self hi]
  · intro j x hj
    by_cases e : i = j
    · subst e
      rw [List.getElem?_set_self hi] at hj
      simp at hj
      right
      refine List.mem_append_right _ ?_
      simp; omega
    · rw [List.getElem?_set_ne e] at hj
      exact (h.all j x hj).imp_right (List.mem_append_left _)

theorem Told.leave {k : Nat} {xs : List Int} {L : Waits} (h : Told k xs L) {i : Nat} (hi : i < 20) : Told (k + 1) (xs.set i 0) (L.filter fun q => !decide (q.1 = (i : Int))) := by
  have hl := h.len
  refine ⟨by rw [List.length_set]; exact h.len, h.rises.sublist (List.filter_sublist.map _), ?_, ?_⟩
  · intro q hq
    obtain ⟨hq, hne⟩ := List.mem_filter.1 hq
    obtain ⟨a, b, j, hj, ej, xj⟩ := h.row q hq
    refine ⟨a, by omega, j, hj, ej, ?_⟩
    rw [List.getElem?_set_ne]
    · exact xj
    · rintro rfl
      simp [ej] at hne
  · intro j x hj
    by_cases e : i = j
    · subst e
      rw [List.getElem?_set_self (by omega)] at hj
      simp at hj; exact .inl hj.symm
    · rw [List.getElem?_set_ne e] at hj
      refine (h.all j x hj).imp_right fun hm => List.mem_filter.2 ⟨hm, ?_⟩
      simp; omega

/-- How many of the first j of the row are not nought. -/
def many (xs : List Int) (j : Nat) : Nat := ((List.range j).filter fun i => decide (xs.getD i 0 ≠ 0)).length
theorem many_zero (xs : List Int) : many xs 0 = 0 := rfl
theorem many_step (xs : List Int) (j : Nat) (h : j < xs.length) : many xs (j + 1) = many xs j + if xs[j] = 0 then 0 else 1 := by
  rw [many, many, List.range_succ, List.filter_append, List.length_append]
  by_cases e : xs[j] = 0 <;> simp [List.getD, List.getElem?_eq_getElem h, e]
theorem many_le (xs : List Int) (j : Nat) : many xs j ≤ j := by
  have := List.length_filter_le (fun i => decide (xs.getD i 0 ≠ 0)) (List.range j)
  rw [List.length_range] at this; exact this

theorem Told.many {k : Nat} {xs : List Int} {L : Waits} (h : Told k xs L) : many xs 20 = L.length := by
  have hp : (L.map (·.1)).Perm (((List.range 20).filter fun i => decide (xs.getD i 0 ≠ 0)).map fun (i : Nat) => (i : Int)) := by
    refine (List.perm_ext_iff_of_nodup h.nodup ?_).2 ?_
    · rw [List.nodup_iff_pairwise_ne, List.pairwise_map]
      refine List.Pairwise.imp ?_ (List.nodup_iff_pairwise_ne.1 (List.nodup_range.sublist List.filter_sublist))
      intro a b hne he; omega
    · intro z
      constructor
      · intro hz
        obtain ⟨q, hq, rfl⟩ := List.mem_map.1 hz
        obtain ⟨a, b, j, hj, ej, xj⟩ := h.row q hq
        refine List.mem_map.2 ⟨j, List.mem_filter.2 ⟨List.mem_range.2 hj, ?_⟩, ej.symm⟩
        simp [List.getD, xj]; omega
      · intro hz
        obtain ⟨j, hj, rfl⟩ := List.mem_map.1 hz
        obtain ⟨hj, hne⟩ := List.mem_filter.1 hj
        have hj := List.mem_range.1 hj
        have hlt : j < xs.length := by have := h.len; omega
        have hg : xs[j]? = some xs[j] := List.getElem?_eq_getElem hlt
        simp [List.getD, hg] at hne
        exact List.mem_map.2 ⟨_, (h.all j _ hg).resolve_left hne, rfl⟩
  have := hp.length_eq
  rw [List.length_map, List.length_map] at this
  exact this.symm

theorem Told.small {k : Nat} {xs : List Int} {L : Waits} (h : Told k xs L) : L.length ≤ 20 := by
  rw [← h.many]; exact many_le _ _

section
variable {w0 w : World} {p B : Nat} {most : Int} {L : Waits} {N : Nat} {xs : List Int}

theorem QE.made (h : QE w0 w p B most L N) : QW w0 (w.alloc (.cells (madeCells #[.int .i64 0] 20) 3)) p B most L N (.slice (some ⟨w.heap.size, 0, none⟩) 20 20) (List.replicate 20 0) := by
  obtain ⟨o, h1, h2, h3⟩ := h
  have hb : Below w.heap.size w (w.alloc (.cells (madeCells #[.int .i64 0] 20) 3)) := (Below.refl w.heap.size w).alloc (Nat.le_refl _) _
  have hlt := h1.lt
  refine ⟨o, h1.below hb, h2.step hb h2.size, h3, ?_, ?_⟩
  · refine ⟨by simp [intCells], .inr ⟨w.heap.size, 20, madeCells #[.int .i64 0] 20, rfl, h2.size, by rw [← World.alloc_eq]; simp, by decide, by decide, by rw [size_madeCells], ?_⟩⟩
    rw [toList_madeCells_one]; simp [intCells]
  · intro j hj hf
    simp [Value.ownBlock] at hj
    subst hj
    rcases hf with e | e | e
    · have := hlt.1; omega
    · have := hlt.2.1; omega
    · have := hlt.2.2.1 _ e; omega

theorem QW.set {g n cap : Nat} (h : QW w0 w p B most L N (.slice (some ⟨g, 0, none⟩) n cap) xs) (hn : n = xs.length) (i : Nat) (x : Int) : QW w0 (w.setCell ⟨g, i, none⟩ (.int .i64 x)) p B most L N (.slice (some ⟨g, 0, none⟩) n cap) (xs.set i x) := by
  subst hn
  obtain ⟨o, h1, h2, h3, h4, h5⟩ := h
  obtain ⟨hs, hg⟩ := h4.stored i (.int .i64 x)
  refine ⟨o, h1.kept (fun j hj hf => hg.block j hj (fun e => h5 j e.symm hf)), below_grown h2 h2.size hg (fun k hk => (h4.lt k hk).1), h3, ?_, h5⟩
  rw [List.length_set]
  have e : intCells (xs.set i x) = (intCells xs).set i (.int .i64 x) := by simp [intCells, List.map_set]
  rw [e]; exact hs

theorem QW.cellAt {g n cap : Nat} (h : QW w0 w p B most L N (.slice (some ⟨g, 0, none⟩) n cap) xs) (hn : n = xs.length) {i : Nat} {x : Int} (hx : xs[i]? = some x) : w.cell? ⟨g, i, none⟩ = some (.int .i64 x) := by
  subst hn
  obtain ⟨hi, e⟩ := List.getElem?_eq_some_iff.1 hx
  rw [← e]
  exact (h.row.cellAt i (by omega)).trans (intCells_at xs i hi)

theorem QW.frozenAt {g n cap : Nat} (h : QW w0 w p B most L N (.slice (some ⟨g, 0, none⟩) n cap) xs) (hn : n = xs.length) (i : Nat) : w.frozen? ⟨g, i, none⟩ = false := by
  subst hn; exact h.row.frozenAt i

theorem QW.later {v : Value} {N' : Nat} (h : QW w0 w p B most L N v xs) (hN : N ≤ N') : QW w0 w p B most L N' v xs := by
  obtain ⟨o, h1, h2, h3, h4, h5⟩ := h
  exact ⟨o, h1.more hN, h2, h3, h4, h5⟩

theorem Told.left {k : Nat} (h : Told k xs L) {i : Nat} (hx : xs[i]? = some 0) : Told (k + 1) (xs.set i 0) L := by
  have e : xs.set i 0 = xs := by
    obtain ⟨hi, e⟩ := List.getElem?_eq_some_iff.1 hx
    conv => lhs; rw [← e]
    exact List.set_getElem_self hi
  rw [e]; exact h.more

theorem Told.entry {k : Nat} (h : Told k xs L) {j : Nat} (hj : j < L.length) : ∃ (s : Nat) (x : Int), s < 20 ∧ L[j].1 = s ∧ xs[s]? = some x ∧ 0 < x ∧ x = L[j].2 + 1 := by
  obtain ⟨a, b, i, hi, e, hx⟩ := h.row _ (List.getElem_mem hj)
  exact ⟨i, _, hi, e, hx, by omega, rfl⟩

theorem Told.before {k : Nat} (h : Told k xs L) {i j : Nat} (hi : i < j) (hj : j < L.length) : L[i].2 < L[j].2 := by
  have h2 := h.rises
  rw [List.pairwise_map] at h2
  exact List.pairwise_iff_getElem.1 h2 i j (by omega) hj hi
end
end Go.Proofs.Ytcklfdpmggoafaa
