/- Who waits: what lies in a queue's blocks. -/
import Derived.Test.YtcklfdpmggoafaaInts
import Derived.Maps.Own
import Derived.Maps.OwnOps
import Derived.Maps.OwnSet
import Derived.Maps.Ext
namespace Go.Proofs.Ytcklfdpmggoafaa
open Go.RowKit Go.Lib Go.WideShapes Go.Maps

abbrev Waits := List (Int × Int)

def look (L : Waits) (id : Int) : Option Int := (L.find? fun q => q.1 == id).map (·.2)

theorem look_nil (id : Int) : look [] id = none := rfl
theorem look_cons (q : Int × Int) (L : Waits) (id : Int) : look (q :: L) id = if q.1 = id then some q.2 else look L id := by
  unfold look
  rw [List.find?_cons]
  by_cases h : q.1 = id
  · simp [h]
  · rw [show (q.1 == id) = false by simpa using h, if_neg h]

theorem look_snoc (L : Waits) (a t id : Int) (h : look L a = none) : look (L ++ [(a, t)]) id = if a = id then some t else look L id := by
  induction L with
  | nil => rw [List.nil_append, look_cons]
  | cons q L ih =>
    rw [look_cons] at h
    split at h
    · cases h
    · rename_i hq
      rw [List.cons_append, look_cons, look_cons, ih h]
      by_cases h1 : q.1 = id
      · rw [if_pos h1, if_neg (fun e => hq (by rw [h1, e])), if_pos h1]
      · rw [if_neg h1, if_neg h1]

theorem look_filter (L : Waits) (a id : Int) : look (L.filter fun q => !decide (q.1 = a)) id = if a = id then none else look L id := by
  induction L with
  | nil => simp [look]
  | cons q L ih =>
    rw [List.filter_cons]
    by_cases hq : q.1 = a
    · rw [if_neg (by simp [hq]), ih, look_cons]
      subst hq
      by_cases h1 : q.1 = id <;> simp [h1]
    · rw [if_pos (by simp [hq]), look_cons, look_cons, ih]
      by_cases h1 : q.1 = id
      · rw [if_pos h1, if_pos h1, if_neg (fun e => hq (by rw [h1, e]))]
      · rw [if_neg h1, if_neg h1]

theorem look_mem {L : Waits} {id t : Int} (hn : (L.map (·.1)).Nodup) (h : (id, t) ∈ L) : look L id = some t := by
  induction L with
  | nil => simp at h
  | cons q L ih =>
    rw [look_cons]
    rw [List.map_cons, List.nodup_cons] at hn
    rcases List.mem_cons.1 h with rfl | h
    · rw [if_pos rfl]
    · rw [if_neg (fun e => hn.1 (List.mem_map.2 ⟨(id, t), h, e.symm⟩)), ih hn.2 h]

theorem look_none {L : Waits} {id : Int} : look L id = none ↔ id ∉ L.map (·.1) := by
  induction L with
  | nil => simp [look]
  | cons q L ih =>
    rw [look_cons, List.map_cons, List.mem_cons, not_or]
    by_cases h : q.1 = id
    · rw [if_pos h]; simp [h]
    · rw [if_neg h, ih]; exact ⟨fun h2 => ⟨fun e => h e.symm, h2⟩, fun h2 => h2.2⟩

/-- The map says who waits since when. -/
structure Tells (D : DataW Unit) (L : Waits) : Prop where
  map : IsMap D
  has : ∀ id, Maps.has D (.int .i64 id) = (look L id).isSome
  tell : ∀ id t, look L id = some t → ∀ z, D.atKey (.int .i64 id) z = .lit (.int .i64 t)

theorem lit_ne {a b : Int} (h : ¬ a = b) : (Lit.int .i64 b) ≠ (Lit.int .i64 a) := fun e => h (by injection e with _ e2; exact e2.symm)

theorem Tells.nil : Tells (.map []) [] := ⟨isMap_empty, fun _ => rfl, fun _ _ h => by cases h⟩

theorem Tells.put {D : DataW Unit} {L : Waits} (h : Tells D L) (a t : Int) (hn : look L a = none) : Tells (D.put (.int .i64 a) (.lit (.int .i64 t))) (L ++ [(a, t)]) := by
  refine ⟨h.map.put _ _, fun id => ?_, fun id s hs z => ?_⟩
  · rw [look_snoc L a t id hn]
    by_cases e : a = id
    · subst e; rw [has_put_same h.map (by trivial), if_pos rfl]; rfl
    · rw [has_put_other (lit_ne e), if_neg e, h.has]
  · rw [look_snoc L a t id hn] at hs
    by_cases e : a = id
    · subst e
      rw [if_pos rfl] at hs
      rw [atKey_put_same h.map (by trivial), Option.some.inj hs]
    · rw [if_neg e] at hs
      rw [atKey_put_other (lit_ne e)]
      exact h.tell id s hs z

theorem Tells.del {D : DataW Unit} {L : Waits} (h : Tells D L) (a : Int) : Tells (D.del (.int .i64 a)) (L.filter fun q => !decide (q.1 = a)) := by
  refine ⟨h.map.del _, fun id => ?_, fun id s hs z => ?_⟩
  · rw [look_filter]
    by_cases e : a = id
    · subst e; rw [has_del_same, if_pos rfl]; rfl
    · rw [has_del_other (lit_ne e), if_neg e, h.has]
  · rw [look_filter] at hs
    by_cases e : a = id
    · rw [if_pos e] at hs; cases hs
    · rw [if_neg e] at hs
      rw [atKey_del_other (lit_ne e)]
      exact h.tell id s hs z

/-- The queue in block p, its map in block B, its row o: at most most wait, those of L. -/
structure QIs (w : World) (p B : Nat) (o : Value) (most : Int) (L : Waits) (N : Nat) : Prop where
  heap : w.heap[p]? = some (.cells #[.int .i64 most, o, .map (some B)] 54 (0, 0))
  row : w.ownsRow 0 3 1 o L.length (intCells (L.map (·.1)))
  map : ∃ (D : DataW Unit) (n : Nat), w.ownsMap Try.prog 3 (plainElem Try.prog 3) B n D ∧ n ≤ N ∧ Tells D L
  nodup : (L.map (·.1)).Nodup
  range : ∀ q ∈ L, (-9223372036854775808 ≤ q.1 ∧ q.1 ≤ 9223372036854775807) ∧ 0 ≤ q.2 ∧ q.2 ≤ 1000000
  most_le : (L.length : Int) ≤ most ∧ most ≤ 1000

def Foot (p B : Nat) (o : Value) (j : Nat) : Prop := j = p ∨ j = B ∨ o.ownBlock = some j

/-- Nothing has turned but the blocks of F, which are now F'. -/
structure Kept (w w' : World) (F F' : Nat → Prop) : Prop where
  os : w'.os = w.os
  tape : w'.tape = w.tape
  output : w'.output = w.output
  size : w.heap.size ≤ w'.heap.size
  block : ∀ j, j < w.heap.size → ¬ F j → w'.heap[j]? = w.heap[j]?
  foot : ∀ j, F' j → F j ∨ w.heap.size ≤ j

theorem Kept.refl (w : World) (F : Nat → Prop) : Kept w w F F := ⟨rfl, rfl, rfl, Nat.le_refl _, fun _ _ _ => rfl, fun _ h => .inl h⟩
theorem Kept.drewN (w : World) (F : Nat → Prop) (n : Nat) : Kept w (w.drewN n) F F := ⟨rfl, rfl, rfl, Nat.le_refl _, fun _ _ _ => rfl, fun _ h => .inl h⟩

theorem Kept.trans {w w' w'' : World} {F F' F'' : Nat → Prop} (h : Kept w w' F F') (h' : Kept w' w'' F' F'') : Kept w w'' F F'' := by
  have := h.size
  have := h'.size
  exact ⟨h'.os.trans h.os, h'.tape.trans h.tape, h'.output.trans h.output, by omega, fun j hj hf => (h'.block j (by omega) (fun hf' => (h.foot j hf').elim hf (fun h => by omega))).trans (h.block j hj hf), fun j hj => (h'.foot j hj).elim (h.foot j) (fun h => .inr (by omega))⟩

theorem Kept.below {w w' : World} {F F' : Nat → Prop} (h : Kept w w' F F') {B : Nat} (hB : B ≤ w.heap.size) (hF : ∀ j, F j → B ≤ j) : Below B w w' ∧ ∀ j, F' j → B ≤ j :=
  ⟨⟨h.os, h.tape, h.output, h.size, fun k hk => h.block k (by omega) (fun hf => by have := hF k hf; omega)⟩, fun j hj => (h.foot j hj).elim (hF j) (fun h => by omega)⟩

theorem QIs.cell {w : World} {p B : Nat} {o : Value} {most : Int} {L : Waits} {N : Nat} (h : QIs w p B o most L N) :
    w.cell? ⟨p, 0, none⟩ = some (.int .i64 most) ∧ w.cell? ⟨p, 1, none⟩ = some o ∧ w.cell? ⟨p, 2, none⟩ = some (.map (some B)) ∧ ∀ i, w.frozen? ⟨p, i, none⟩ = false := by
  refine ⟨?_, ?_, ?_, fun i => ?_⟩
  · simp [World.cell?, h.heap]
  · simp [World.cell?, h.heap]
  · simp [World.cell?, h.heap]
  · simp [World.frozen?, h.heap]

theorem QIs.lt {w : World} {p B : Nat} {o : Value} {most : Int} {L : Waits} {N : Nat} (h : QIs w p B o most L N) : p < w.heap.size ∧ B < w.heap.size ∧ (∀ j, o.ownBlock = some j → j < w.heap.size) ∧ p ≠ B ∧ o.ownBlock ≠ some p ∧ o.ownBlock ≠ some B := by
  obtain ⟨D, n, hm, _, _⟩ := h.map
  obtain ⟨es, clock, hb, _⟩ := hm
  have hrow : ∀ j, o.ownBlock = some j → ∃ cur, w.heap[j]? = some (.cells cur 3 (0, 0)) := by
    intro j hj
    rcases h.row.2 with ⟨ho, _⟩ | ⟨g, cap, cur, ho, _, hg, _⟩
    · rw [ho] at hj; cases hj
    · rw [ho] at hj; simp [Value.ownBlock] at hj; subst hj; exact ⟨cur, hg⟩
  refine ⟨(Array.getElem?_eq_some_iff.1 h.heap).1, (Array.getElem?_eq_some_iff.1 hb).1, fun j hj => ?_, fun e => ?_, fun e => ?_, fun e => ?_⟩
  · obtain ⟨cur, hc⟩ := hrow j hj; exact (Array.getElem?_eq_some_iff.1 hc).1
  · rw [← e, h.heap] at hb; cases hb
  · obtain ⟨cur, hc⟩ := hrow p e; rw [h.heap] at hc; simp at hc
  · obtain ⟨cur, hc⟩ := hrow B e; rw [hb] at hc; cases hc

theorem QIs.drewN {w : World} {p B : Nat} {o : Value} {most : Int} {L : Waits} {N : Nat} (h : QIs w p B o most L N) (n : Nat) : QIs (w.drewN n) p B o most L N :=
  ⟨h.heap, h.row, h.map, h.nodup, h.range, h.most_le⟩

/-- What turns nothing of the queue's own leaves it. -/
theorem QIs.kept {w w' : World} {p B : Nat} {o : Value} {most : Int} {L : Waits} {N : Nat} (h : QIs w p B o most L N) (hk : ∀ j, j < w.heap.size → Foot p B o j → w'.heap[j]? = w.heap[j]?) : QIs w' p B o most L N := by
  obtain ⟨h1, h2, h3, _⟩ := h.lt
  refine ⟨(hk p h1 (.inl rfl)).trans h.heap, ?_, ?_, h.nodup, h.range, h.most_le⟩
  · refine ⟨h.row.1, ?_⟩
    rcases h.row.2 with hn | ⟨g, cap, cur, ho, hb, hg, rest⟩
    · exact .inl hn
    · have ho2 : o.ownBlock = some g := by rw [ho]; rfl
      exact .inr ⟨g, cap, cur, ho, hb, (hk g (h3 g ho2) (.inr (.inr ho2))).trans hg, rest⟩
  · obtain ⟨D, n, ⟨es, clock, hb, r⟩, hn, ht⟩ := h.map
    exact ⟨D, n, ⟨es, clock, (hk B h2 (.inr (.inl rfl))).trans hb, r⟩, hn, ht⟩

theorem QIs.below {w w' : World} {p B : Nat} {o : Value} {most : Int} {L : Waits} {N : Nat} (h : QIs w p B o most L N) (hb : Below w.heap.size w w') : QIs w' p B o most L N :=
  h.kept (fun j hj _ => hb.block j hj)
end Go.Proofs.Ytcklfdpmggoafaa
