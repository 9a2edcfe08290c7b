/- Contracts and mathematics: Reader, Next, Boxes. -/
import Derived.Test.YtmofnkinclckoaaGreatDoorRows
import Derived.Test.YtmofnkinclckoaaGreatDoorZ19
import Derived.Test.YtmofnkinclckoaaGreatDoorZ9
import Derived.Deep.RegionWith
import Derived.Deep.RegionHeld3
import Derived.Deep.DeepCutAuto
namespace Go.Proofs.YtmofnkinclckoaaGreatDoor
open Go.RowKit Go.Lib

/-- The reader in block p: what it holds, whether its next frame is bare, the error that ended it. -/
structure RIs (w : World) (p : Nat) (v : Value) (s : ByteArray) (bare : Bool) (e : Int) : Prop where
  heap : w.heap[p]? = some (.cells #[v, .bool bare, .int .i64 e] 67 (0, 0))
  own : OwnB w 5 p v s

/-- Nothing that was there has turned, but for block p and one row. -/
structure Turned (w w' : World) (p : Nat) (row : Option Nat) : Prop where
  os : w'.os = w.os
  tape : w'.tape = w.tape
  output : w'.output = w.output
  size : w.heap.size ≤ w'.heap.size
  block : ∀ k, k < w.heap.size → k ≠ p → some k ≠ row → w'.heap[k]? = w.heap[k]?

theorem Turned.below {w w' : World} {p : Nat} {row : Option Nat} {B : Nat} (h : Turned w w' p row) (hB : B ≤ w.heap.size) (hp : B ≤ p) (hr : ∀ k, row = some k → B ≤ k) : Below B w w' :=
  ⟨h.os, h.tape, h.output, h.size, fun k hk => h.block k (by omega) (by omega) (fun e => by have := hr k e.symm; omega)⟩

theorem Turned.refl (w : World) (p : Nat) (row : Option Nat) : Turned w w p row := ⟨rfl, rfl, rfl, Nat.le_refl _, fun _ _ _ _ => rfl⟩

theorem RIs.cell {w : World} {p : Nat} {v : Value} {s : ByteArray} {bare : Bool} {e : Int} (h : RIs w p v s bare e) :
    w.cell? ⟨p, 0, none⟩ = some v ∧ w.cell? ⟨p, 1, none⟩ = some (.bool bare) ∧ w.cell? ⟨p, 2, none⟩ = some (.int .i64 e) := by
  refine ⟨?_, ?_, ?_⟩ <;> rw [cell_of_row w p _ _ _ (0, 0) h.heap] <;> rfl

theorem RIs.frozen {w : World} {p : Nat} {v : Value} {s : ByteArray} {bare : Bool} {e : Int} (h : RIs w p v s bare e) (i : Nat) : w.frozen? ⟨p, i, none⟩ = false := by
  simp [World.frozen?, h.heap]

theorem RIs.lt {w : World} {p : Nat} {v : Value} {s : ByteArray} {bare : Bool} {e : Int} (h : RIs w p v s bare e) : p < w.heap.size := (Array.getElem?_eq_some_iff.1 h.heap).1

theorem OwnB.form {w : World} {e : TypeId} {p : Nat} {v : Value} {s : ByteArray} (h : OwnB w e p v s) : ∃ a c, v = .slice a s.size c := by
  rcases h with ⟨rfl, h0⟩ | ⟨g, o, cap, cur, rfl, _⟩
  · exact ⟨none, 0, by rw [h0]⟩
  · exact ⟨_, _, rfl⟩

theorem OwnB.ne {w : World} {e : TypeId} {p : Nat} {v : Value} {s : ByteArray} (h : OwnB w e p v s) : some p ≠ v.ownBlock := by
  rcases h with ⟨rfl, h0⟩ | ⟨g, o, cap, cur, rfl, hg, _⟩
  · simp [Value.ownBlock]
  · simp [Value.ownBlock]; omega

theorem OwnB.lt {w : World} {e : TypeId} {p : Nat} {v : Value} {s : ByteArray} (h : OwnB w e p v s) : ∀ k, v.ownBlock = some k → k < w.heap.size := by
  rcases h with ⟨rfl, h0⟩ | ⟨g, o, cap, cur, rfl, hg, h1, _⟩
  · simp [Value.ownBlock]
  · intro k hk
    simp [Value.ownBlock] at hk
    subst hk
    exact (Array.getElem?_eq_some_iff.1 h1).1

theorem OwnB.reads {w : World} {e : TypeId} {p : Nat} {v : Value} {s : ByteArray} (h : OwnB w e p v s) : Reads w v s := by
  rcases h with h | ⟨g, o, cap, cur, rfl, hg, h1, hc, hcm, hcs, hr⟩
  · exact .inl h
  · refine .inr ⟨g, o, cap, rfl, hc, (Array.getElem?_eq_some_iff.1 h1).1, fun i hi => ?_⟩
    rw [cell_of_row w g (o + i) cur e (0, 0) h1, ← hr, List.getElem?_take_of_lt hi, List.getElem?_drop]
    simp

theorem wpList_feed {P : Program} {w : World} {ops : Array Oper} {rest : List Oper} {o : Oper} {a : Act} {Q : Exit → Act → World → Prop} (hgd : o.guard = none) (sl x : Operand) (t u e : TypeId)
    (ho : o.op = .call { callee := .builtin .append, args := #[sl, x], argTypes := #[t, u] })
    (i : TypeInfo) (ht : P.underlying t = some (.slice e)) (hu : P.underlying u = some .string) (hi : P.info? e = some i) (hz : i.zero = some (.int .u8 0)) (hsize : i.size = 1) (hby : i.bytes = 1)
    (p : Nat) (hp : p < w.heap.size) (v : Value) (s y : ByteArray) (hv : OwnB w e p v s) (hy : y.size ≤ 140737488355328) (hb : s.size + y.size ≤ 200000000000000) (hs : a.eval sl = v) (hx : a.eval x = .string y)
    (h : ∀ v' w', OwnB w' e p v' (s ++ y) → w.grownBy w' v.ownBlock → (∀ k, v'.ownBlock = some k → v.ownBlock = some k ∨ w.heap.size ≤ k) → wpList P ops Q rest (a.put o.dst v') w') : wpList P ops Q (o :: rest) a w := by
  refine wpList_plain hgd fun K hK => ?_
  obtain ⟨v', w', hr, h2, h3, h4⟩ := run_feed (P := P) w t u o.type e i ht hu hi hz hsize hby p hp v s y hv hy hb
  unfold Oper.wp execOp
  simp only [ho, resolve, invoke, builtin, Sem.run_bind, Sem.run_pure, Result.andThen_ok, List.map_toArray, List.map_cons, List.map_nil, hs, hx, hr]
  exact hK _ _ (h v' w' h2 h3 h4)

theorem new_any (bare : Bool) (w : World) :
    Calls Tryz.prog 13 #[.bool bare] w fun e w' => e = .returned (.pointer (some ⟨w.heap.size, 0, none⟩)) ∧ w' = w.alloc (.cells #[.slice none 0 0, .bool bare, .int .i64 0] 67) := by
  go_enter Tryz.func13, Tryz.ntmps13
  go_wp2
  go_ret
  exact ⟨rfl, rfl⟩

theorem feed_ended (p : Nat) (v : Value) (s x : ByteArray) (bare : Bool) (e : Int) (w : World) (h : RIs w p v s bare e) (he : ¬ e = 0) :
    Calls Tryz.prog 14 #[.pointer (some ⟨p, 0, none⟩), .string x] w fun e w' => e = .returned (.tuple #[]) ∧ w = w' := by
  obtain ⟨c0, c1, c2⟩ := h.cell
  have hb : (e == 0) = false := by simpa using he
  clear h
  go_enter Tryz.func14, Tryz.ntmps14
  go_wp2
  go_end0
  exact ⟨rfl, rfl⟩

def Fed (p : Nat) (v : Value) (s x : ByteArray) (bare : Bool) (w : World) (e : Ending) (w' : World) : Prop :=
  e = .returned (.tuple #[]) ∧ ∃ v', RIs w' p v' (s ++ x) bare 0 ∧ Turned w w' p v.ownBlock ∧ (∀ k, v'.ownBlock = some k → v.ownBlock = some k ∨ w.heap.size ≤ k)

theorem fed_end {p : Nat} {v v1 : Value} {s x : ByteArray} {bare : Bool} {w w1 : World} (hown : OwnB w1 5 p v1 (s ++ x)) (h : RIs w p v s bare 0) (hgr : w.grownBy w1 v.ownBlock) (hnew : ∀ k, v1.ownBlock = some k → v.ownBlock = some k ∨ w.heap.size ≤ k) :
    Fed p v s x bare w (.returned (.tuple #[])) (w1.setCell ⟨p, 0, none⟩ v1) := by
  have hkeep : w1.heap[p]? = w.heap[p]? := hgr.block p h.lt h.own.ne
  have h1 := hkeep.trans h.heap
  have hput : (w1.setCell ⟨p, 0, none⟩ v1).heap[p]? = some (.cells #[v1, .bool bare, .int .i64 0] 67 (0, 0)) := by
    rw [setCell_eq_setRow w1 p 0 _ _ (0, 0) v1 h1]
    exact setRow_heap w1 p _ _ _ _ h1
  have hoth : ∀ k, k ≠ p → (w1.setCell ⟨p, 0, none⟩ v1).heap[k]? = w1.heap[k]? := fun k hk => Below.heap_setCell _ _ _ _ hk
  refine ⟨rfl, v1, ⟨hput, hown.kept (fun k hk => hoth k (fun e => hown.ne (by rw [hk, e])))⟩, ⟨hgr.os, hgr.tape, hgr.output, ?_, fun k hk hkp hkr => (hoth k hkp).trans (hgr.block k hk hkr)⟩, hnew⟩
  simpa [World.setCell] using hgr.size

set_option maxHeartbeats 800000 in
theorem feed_wide (p : Nat) (v : Value) (s x : ByteArray) (bare : Bool) (w : World) (h : RIs w p v s bare 0) (hy : x.size ≤ 140737488355328) (hb : s.size + x.size ≤ 200000000000000) :
    Calls Tryz.prog 14 #[.pointer (some ⟨p, 0, none⟩), .string x] w (Fed p v s x bare w) := by
  obtain ⟨i0, hi, hz0, hz1, hz2⟩ := info_parts infoU8M
  obtain ⟨c0, c1, c2⟩ := h.cell
  have f0 := h.frozen 0
  have hp := h.lt
  obtain ⟨a, c, hv⟩ := h.own.form
  have HV := Lib.hid hv
  have c0' := c0
  rw [hv] at c0'
  clear hv c0
  have H := Lib.hid h
  clear h
  go_enter Tryz.func14, Tryz.ntmps14
  go_wp2_with (at_builtin; refine wpList_feed rfl (.tmp 13) (.tmp 14) 65 9 5 rfl i0 Tryz.underlying65 Tryz.underlying9 hi hz0 hz1 hz2 p hp v s x H.out.own hy hb HV.out.symm rfl ?_)
  intro v1 w1 hown hgr hnew
  have hkeep : w1.heap[p]? = w.heap[p]? := hgr.block p hp H.out.own.ne
  obtain ⟨a1, c3, hv1⟩ := hown.form
  rw [append_size] at hv1
  have hc1 : w1.cell? ⟨p, 0, none⟩ = some (.slice a s.size c) := (World.cell?_of_block (a := ⟨p, 0, none⟩) hkeep).trans c0'
  have hf1 : w1.frozen? ⟨p, 0, none⟩ = false := (World.frozen?_of_block (a := ⟨p, 0, none⟩) hkeep).trans f0
  have hfin := Lib.hid (fed_end hown H.out hgr hnew)
  rw [hv1] at hfin ⊢
  clear hown hgr hnew hkeep c0' f0 hv1 HV H
  go_wp2
  go_end0
  exact hfin.out

theorem feed_any (p : Nat) (v : Value) (s x : ByteArray) (bare : Bool) (w : World) (h : RIs w p v s bare 0) (hb : s.size + x.size ≤ 140737488355328) :
    Calls Tryz.prog 14 #[.pointer (some ⟨p, 0, none⟩), .string x] w (Fed p v s x bare w) :=
  feed_wide p v s x bare w h (by omega) (by omega)

def Dropped (p : Nat) (v : Value) (s : ByteArray) (n : Nat) (bare : Bool) (er : Int) (w : World) (e : Ending) (w' : World) : Prop :=
  e = .returned (.tuple #[]) ∧ ∃ v', RIs w' p v' (s.extract n s.size) bare er ∧ Turned w w' p none ∧ (∀ k, v'.ownBlock = some k → v.ownBlock = some k)

/-- What a reader is behind stores into its first cell. -/
theorem put_left {p : Nat} {v v1 : Value} {s s1 : ByteArray} {bare : Bool} {er : Int} {w : World} (h : RIs w p v s bare er) (hown : OwnB w 5 p v1 s1) (hsub : ∀ k, v1.ownBlock = some k → v.ownBlock = some k) :
    ∃ v', RIs (w.setCell ⟨p, 0, none⟩ v1) p v' s1 bare er ∧ Turned w (w.setCell ⟨p, 0, none⟩ v1) p none ∧ (∀ k, v'.ownBlock = some k → v.ownBlock = some k) := by
  have hput : (w.setCell ⟨p, 0, none⟩ v1).heap[p]? = some (.cells #[v1, .bool bare, .int .i64 er] 67 (0, 0)) := by
    rw [setCell_eq_setRow w p 0 _ _ (0, 0) v1 h.heap]
    exact setRow_heap w p _ _ _ _ h.heap
  have hoth : ∀ k, k ≠ p → (w.setCell ⟨p, 0, none⟩ v1).heap[k]? = w.heap[k]? := fun k hk => Below.heap_setCell _ _ _ _ hk
  exact ⟨v1, ⟨hput, hown.kept (fun k hk => hoth k (fun e => hown.ne (by rw [hk, e])))⟩, ⟨rfl, rfl, rfl, by simp [World.setCell], fun k _ hkp _ => hoth k hkp⟩, hsub⟩

theorem cut_own {w : World} {e : TypeId} {p g o cap n : Nat} {s : ByteArray} (h : OwnB w e p (.slice (some ⟨g, o, none⟩) s.size cap) s) (hn : n < s.size) :
    OwnB w e p (.slice (some ⟨g, o + n, none⟩) (s.size - n) (cap - n)) (s.extract n s.size) := by
  have hz : (s.extract n s.size).size = s.size - n := by simp
  rcases h with ⟨h0, _⟩ | ⟨g', o', cap', cur, hv, hg, h1, hc, hcm, hcs, hr⟩
  · cases h0
  · obtain ⟨rfl, rfl, rfl⟩ : g = g' ∧ o = o' ∧ cap = cap' := by simp at hv; omega
    refine .inr ⟨g, o + n, cap - n, cur, by rw [hz], hg, h1, by omega, by omega, by omega, ?_⟩
    have e1 : (s.extract n s.size).data.toList = s.data.toList.drop n := by
      rw [extract_data]; exact List.take_of_length_le (by rw [List.length_drop, size_list]; omega)
    have e2 : cellsOf (s.data.toList.drop n) = (cellsOf s.data.toList).drop n := by simp [cellsOf, List.map_drop]
    rw [hz, e1, e2, ← hr, List.drop_take, List.drop_drop]

/-- A store into the first cell, and one more. -/
theorem put_twice {p : Nat} {v x : Value} {s : ByteArray} {bare : Bool} {er : Int} {w : World} (h : RIs w p v s bare er) :
    RIs ((w.setCell ⟨p, 0, none⟩ x).setCell ⟨p, 0, none⟩ (.slice none 0 0)) p (.slice none 0 0) (s.extract s.size s.size) bare er ∧ Turned w ((w.setCell ⟨p, 0, none⟩ x).setCell ⟨p, 0, none⟩ (.slice none 0 0)) p none := by
  have h1 : (w.setCell ⟨p, 0, none⟩ x).heap[p]? = some (.cells #[x, .bool bare, .int .i64 er] 67 (0, 0)) := by
    rw [setCell_eq_setRow w p 0 _ _ (0, 0) x h.heap]
    exact setRow_heap w p _ _ _ _ h.heap
  have h2 : ((w.setCell ⟨p, 0, none⟩ x).setCell ⟨p, 0, none⟩ (.slice none 0 0)).heap[p]? = some (.cells #[.slice none 0 0, .bool bare, .int .i64 er] 67 (0, 0)) := by
    rw [setCell_eq_setRow _ p 0 _ _ (0, 0) _ h1]
    exact setRow_heap _ p _ _ _ _ h1
  refine ⟨⟨h2, .inl ⟨rfl, by simp⟩⟩, ⟨rfl, rfl, rfl, by simp [World.setCell], fun k _ hkp _ => ?_⟩⟩
  exact (Below.heap_setCell _ _ _ _ hkp).trans (Below.heap_setCell _ _ _ _ hkp)

set_option maxHeartbeats 800000 in
theorem drop_some (p g o cap : Nat) (s : ByteArray) (n : Nat) (bare : Bool) (er : Int) (w : World) (h : RIs w p (.slice (some ⟨g, o, none⟩) s.size cap) s bare er) (hn : n < s.size) (hc : s.size ≤ cap) :
    Calls Tryz.prog 24 #[.pointer (some ⟨p, 0, none⟩), .int .i64 n] w (Dropped p (.slice (some ⟨g, o, none⟩) s.size cap) s n bare er w) := by
  obtain ⟨c0, c1, c2⟩ := h.cell
  have f0 := h.frozen 0
  have hcn : ¬ cap = n := by omega
  have hlen : ((s.size : Int) - n == 0) = false := by simp; omega
  have hlen2 : ((s.size - n : Nat) : Int) = (s.size : Int) - n := by omega
  have hfin := Lib.hid (put_left h (cut_own h.own hn) (fun k hk => hk))
  clear h
  go_enter Tryz.func24, Tryz.ntmps24
  go_wp2
  go_end0
  exact ⟨rfl, hfin.out⟩

set_option maxHeartbeats 800000 in
theorem drop_all (p g o cap : Nat) (s : ByteArray) (bare : Bool) (er : Int) (w : World) (h : RIs w p (.slice (some ⟨g, o, none⟩) s.size cap) s bare er) (hc : s.size ≤ cap) :
    Calls Tryz.prog 24 #[.pointer (some ⟨p, 0, none⟩), .int .i64 s.size] w (Dropped p (.slice (some ⟨g, o, none⟩) s.size cap) s s.size bare er w) := by
  obtain ⟨c0, c1, c2⟩ := h.cell
  have f0 := h.frozen 0
  have HF := fun x => Lib.hid (put_twice (x := x) h)
  clear h
  by_cases hcn : cap = s.size
  · subst hcn
    go_enter Tryz.func24, Tryz.ntmps24
    go_wp2
    go_end0
    exact ⟨rfl, _, (HF _).out.1, (HF _).out.2, by simp [Value.ownBlock]⟩
  · go_enter Tryz.func24, Tryz.ntmps24
    go_wp2
    go_end0
    exact ⟨rfl, _, (HF _).out.1, (HF _).out.2, by simp [Value.ownBlock]⟩

theorem drop_any (p : Nat) (v : Value) (s : ByteArray) (n : Nat) (bare : Bool) (er : Int) (w : World) (h : RIs w p v s bare er) (h0 : 0 < n) (hn : n ≤ s.size) :
    Calls Tryz.prog 24 #[.pointer (some ⟨p, 0, none⟩), .int .i64 n] w (Dropped p v s n bare er w) := by
  rcases h.own with ⟨_, hz⟩ | ⟨g, o, cap, cur, rfl, hg, h1, hc, _⟩
  · omega
  · by_cases hlt : n < s.size
    · exact drop_some p g o cap s n bare er w h hlt hc
    · obtain rfl : n = s.size := by omega
      exact drop_all p g o cap s bare er w h hc
end Go.Proofs.YtmofnkinclckoaaGreatDoor

namespace Go.Proofs.YtmofnkinclckoaaGreatDoor
open Go.RowKit Go.Lib

/-- The reader's cells read so. -/
def Seen (w : World) (p : Nat) (v : Value) (bare : Bool) (e : Int) : Prop :=
  w.cell? ⟨p, 0, none⟩ = some v ∧ w.cell? ⟨p, 1, none⟩ = some (.bool bare) ∧ w.cell? ⟨p, 2, none⟩ = some (.int .i64 e)

theorem next_ended (p : Nat) (v : Value) (s : ByteArray) (bare : Bool) (er : Int) (w : World) (h : RIs w p v s bare er) (he : ¬ er = 0) :
    Calls Tryz.prog 15 #[.pointer (some ⟨p, 0, none⟩)] w fun e w' => e = .returned (.tuple #[.agg #[.int .u8 0, .string { data := #[] }], .int .i64 er]) ∧ Below w.heap.size w w' := by
  obtain ⟨c0, c1, c2⟩ := h.cell
  have hb : (er != 0) = true := by simpa using he
  have hp := h.lt
  clear h
  go_enter Tryz.func15, Tryz.ntmps15
  go_wp2
  go_region
  go_wp2
  refine bodyPost_ret (v := .tuple #[.agg #[.int .u8 0, .string { data := #[] }], .int .i64 er]) (by simp [results, Tryz.results15, go_sem]) rfl ⟨rfl, ?_⟩
  exact ((Below.refl _ _).alloc (Nat.le_refl _) _).drew

theorem Reads.grown {w w' : World} {v : Value} {s : ByteArray} (h : Reads w v s) (hb : Below w.heap.size w w') : Reads w' v s := by
  rcases h with h | ⟨g, o, cap, rfl, hc, hg, hl⟩
  · exact .inl h
  · exact .inr ⟨g, o, cap, rfl, hc, Nat.lt_of_lt_of_le hg hb.size, fun i hi => (hb.cell (p := ⟨g, o + i, none⟩) hg).trans (hl i hi)⟩

/-- What stands behind a call that makes memory, with a box laid ahead of it: the box, the reader's cells. -/
theorem next_behind {w w1 : World} {A : Array Value} {T : TypeId} {p : Nat} {x0 x1 x2 : Value} (hp : p < w.heap.size) (c0 : w.cell? ⟨p, 0, none⟩ = some x0) (c1 : w.cell? ⟨p, 1, none⟩ = some x1) (c2 : w.cell? ⟨p, 2, none⟩ = some x2)
    (hb : Below (w.alloc (.cells A T)).drew.heap.size (w.alloc (.cells A T)).drew w1) :
    Below w.heap.size w w1 ∧ w1.cell? ⟨p, 0, none⟩ = some x0 ∧ w1.cell? ⟨p, 1, none⟩ = some x1 ∧ w1.cell? ⟨p, 2, none⟩ = some x2 ∧ (∀ i : Nat, w1.cell? ⟨w.heap.size, i, none⟩ = A[i]?) ∧ (∀ i : Nat, w1.frozen? ⟨w.heap.size, i, none⟩ = false) ∧ w.heap.size < w1.heap.size ∧ p < w1.heap.size := by
  have h1 : Below (w.alloc (.cells A T)).heap.size (w.alloc (.cells A T)) w1 := (Below.refl _ (w.alloc (.cells A T))).drew.step hb (by simp)
  obtain ⟨h2, h3, h4⟩ := one_box h1
  have hB : Below w.heap.size w w1 := ((Below.refl _ _).alloc (Nat.le_refl _) _).step h1 (by simp)
  exact ⟨hB, (hB.cell (p := ⟨p, 0, none⟩) hp).trans c0, (hB.cell (p := ⟨p, 1, none⟩) hp).trans c1, (hB.cell (p := ⟨p, 2, none⟩) hp).trans c2, h2, h3, h4, by omega⟩

theorem next_before {w w1 : World} {A B : Array Value} {T U : TypeId} {p : Nat} {x0 x1 x2 : Value} (hp : p < w.heap.size) (c0 : w.cell? ⟨p, 0, none⟩ = some x0) (c1 : w.cell? ⟨p, 1, none⟩ = some x1) (c2 : w.cell? ⟨p, 2, none⟩ = some x2)
    (hb : Below ((w.alloc (.cells A T)).alloc (.cells B U)).drew.heap.size ((w.alloc (.cells A T)).alloc (.cells B U)).drew w1) :
    Below w.heap.size w w1 ∧ w1.cell? ⟨p, 0, none⟩ = some x0 ∧ w1.cell? ⟨p, 1, none⟩ = some x1 ∧ w1.cell? ⟨p, 2, none⟩ = some x2 ∧ (∀ i : Nat, w1.cell? ⟨w.heap.size, i, none⟩ = A[i]?) ∧ (∀ i : Nat, w1.frozen? ⟨w.heap.size, i, none⟩ = false) ∧ w.heap.size < w1.heap.size ∧ p < w1.heap.size ∧
      (∀ i : Nat, w1.cell? ⟨w.heap.size + 1, i, none⟩ = B[i]?) ∧ (∀ i : Nat, w1.frozen? ⟨w.heap.size + 1, i, none⟩ = false) ∧ w.heap.size + 1 < w1.heap.size := by
  have h1 : Below (w.alloc (.cells A T)).heap.size (w.alloc (.cells A T)) w1 := ((Below.refl _ (w.alloc (.cells A T))).alloc (Nat.le_refl _) _).drew.step hb (by simp)
  obtain ⟨h2, h3, h4⟩ := one_box h1
  have h5 : Below ((w.alloc (.cells A T)).alloc (.cells B U)).heap.size ((w.alloc (.cells A T)).alloc (.cells B U)) w1 := (Below.refl _ ((w.alloc (.cells A T)).alloc (.cells B U))).drew.step hb (by simp)
  have h6 := one_box h5
  simp only [World.size_alloc] at h6
  have hB : Below w.heap.size w w1 := ((Below.refl _ _).alloc (Nat.le_refl _) _).step h1 (by simp)
  exact ⟨hB, (hB.cell (p := ⟨p, 0, none⟩) hp).trans c0, (hB.cell (p := ⟨p, 1, none⟩) hp).trans c1, (hB.cell (p := ⟨p, 2, none⟩) hp).trans c2, h2, h3, h4, by omega, h6.1, h6.2.1, h6.2.2⟩

/-- What stands behind the reading of the next frame: it lies in block q; the result's block, and all that was there, as before. -/
def Behind (w : World) (T : Int) (B : ByteArray) (q : Nat) (wx : World) : Prop :=
  (∀ i : Nat, wx.cell? ⟨q, i, none⟩ = (#[.int .u8 T, .string B] : Array Value)[i]?) ∧ (∀ i : Nat, wx.cell? ⟨w.heap.size, i, none⟩ = (#[.int .u8 0, .string { data := #[] }] : Array Value)[i]?) ∧ (∀ i : Nat, wx.frozen? ⟨w.heap.size, i, none⟩ = false) ∧
    w.heap.size < q ∧ q < wx.heap.size ∧ Below w.heap.size w wx

theorem behind_new {w w1 : World} {T : Int} {B : ByteArray} (hB : Below w.heap.size w w1) (x : ∀ i : Nat, w1.cell? ⟨w.heap.size, i, none⟩ = (#[.int .u8 0, .string { data := #[] }] : Array Value)[i]?) (y : ∀ i : Nat, w1.frozen? ⟨w.heap.size, i, none⟩ = false) (hz : w.heap.size < w1.heap.size) :
    Behind w T B w1.heap.size (w1.alloc (.cells #[.int .u8 T, .string B] 50)) :=
  ⟨fun i => World.cell?_alloc_new _ _ _ _, fun i => (World.cell?_alloc_past _ _ _ hz).trans (x i), fun i => (World.frozen?_alloc_old _ _ ⟨w.heap.size, i, none⟩ (by simp; omega)).trans (y i), hz, by simp, hB.alloc (by omega) _⟩

theorem behind_old {w w1 : World} {T : Int} {B : ByteArray} (hB : Below w.heap.size w w1) (x : ∀ i : Nat, w1.cell? ⟨w.heap.size, i, none⟩ = (#[.int .u8 0, .string { data := #[] }] : Array Value)[i]?) (y : ∀ i : Nat, w1.frozen? ⟨w.heap.size, i, none⟩ = false) (hz : w.heap.size + 1 < w1.heap.size)
    (x' : ∀ i : Nat, w1.cell? ⟨w.heap.size + 1, i, none⟩ = (#[.int .u8 0, .string { data := #[] }] : Array Value)[i]?) :
    Behind w T B (w.heap.size + 1) ((w1.setCell ⟨w.heap.size + 1, 0, none⟩ (.int .u8 T)).setCell ⟨w.heap.size + 1, 1, none⟩ (.string B)) := by
  refine ⟨fun i => ?_, fun i => ?_, fun i => ?_, by omega, by simp [World.setCell]; omega, (hB.setCell (by simp) _).setCell (by simp) _⟩
  · match i with
    | 0 => simp [go_sem, x']
    | 1 => simp [go_sem, x']
    | n + 2 => simp [go_sem, x']
  · have := x i
    simp [go_sem, this]
  · have := y i
    simp [go_sem, this]

theorem RIs.grown {w w' : World} {p : Nat} {v : Value} {s : ByteArray} {b : Bool} {e : Int} (h : RIs w p v s b e) (hb : Below w.heap.size w w') : RIs w' p v s b e :=
  ⟨(hb.block p h.lt).trans h.heap, h.own.kept (fun k hk => hb.block k (h.own.lt k hk))⟩

/-- A store into one of the reader's cells. -/
theorem RIs.stored {w : World} {p : Nat} {v : Value} {s : ByteArray} {b : Bool} {e : Int} (h : RIs w p v s b e) (i : Nat) (x : Value) :
    (w.setCell ⟨p, i, none⟩ x).heap[p]? = some (.cells ((#[v, .bool b, .int .i64 e] : Array Value).setIfInBounds i x) 67 (0, 0)) ∧ (∀ k, k ≠ p → (w.setCell ⟨p, i, none⟩ x).heap[k]? = w.heap[k]?) := by
  refine ⟨?_, fun k hk => Below.heap_setCell _ _ _ _ hk⟩
  rw [setCell_eq_setRow w p i _ _ (0, 0) x h.heap]
  exact setRow_heap w p _ _ _ _ h.heap

theorem RIs.setBare {w : World} {p : Nat} {v : Value} {s : ByteArray} {b : Bool} {e : Int} (h : RIs w p v s b e) (b' : Bool) : RIs (w.setCell ⟨p, 1, none⟩ (.bool b')) p v s b' e :=
  ⟨(h.stored 1 (.bool b')).1, h.own.kept (fun k hk => (h.stored 1 (.bool b')).2 k (fun e => h.own.ne (by rw [hk, e])))⟩

/-- What Next leaves of a reader. -/
def Nexted (p : Nat) (v : Value) (s' : ByteArray) (b' : Bool) (e' : Int) (w w' : World) : Prop :=
  ∃ v', RIs w' p v' s' b' e' ∧ Turned w w' p none ∧ (∀ k, v'.ownBlock = some k → v.ownBlock = some k)

/-- The result's block is written behind all. -/
theorem nexted_end {w wx : World} {p h : Nat} {v v' : Value} {s' : ByteArray} {b' : Bool} {e' : Int} {x y : Value} (hR : RIs wx p v' s' b' e') (hT : Turned w wx p none) (hsub : ∀ k, v'.ownBlock = some k → v.ownBlock = some k) (hv : ∀ k, v.ownBlock = some k → k < w.heap.size) (hh : w.heap.size ≤ h) (hp : p < w.heap.size) :
    Nexted p v s' b' e' w ((wx.setCell ⟨h, 0, none⟩ x).setCell ⟨h, 1, none⟩ y) := by
  have ho : ∀ k, k ≠ h → ((wx.setCell ⟨h, 0, none⟩ x).setCell ⟨h, 1, none⟩ y).heap[k]? = wx.heap[k]? := fun k hk =>
    (Below.heap_setCell _ _ _ _ hk).trans (Below.heap_setCell _ _ _ _ hk)
  refine ⟨v', ⟨(ho p (by omega)).trans hR.heap, hR.own.kept (fun k hk => ho k (by have := hv k (hsub k hk); omega))⟩, ⟨hT.os, hT.tape, hT.output, by simpa [World.setCell] using hT.size, fun k hk hkp hkr => (ho k (by omega)).trans (hT.block k hk hkp hkr)⟩, hsub⟩

theorem wrong_end {w wc : World} {p : Nat} {v : Value} {s : ByteArray} {b : Bool} {x y : Value} {E : Int} (h : RIs w p v s b 0) (hB : Below w.heap.size w wc) :
    Nexted p v { data := #[] } b E w ((((wc.setCell ⟨p, 2, none⟩ (.int .i64 E)).setCell ⟨p, 0, none⟩ (.slice none 0 0)).setCell ⟨w.heap.size, 0, none⟩ x).setCell ⟨w.heap.size, 1, none⟩ y) := by
  have hR := h.grown hB
  have e1 : (wc.setCell ⟨p, 2, none⟩ (.int .i64 E)).heap[p]? = some (.cells #[v, .bool b, .int .i64 E] 67 (0, 0)) := (hR.stored 2 (.int .i64 E)).1
  have e2 : ((wc.setCell ⟨p, 2, none⟩ (.int .i64 E)).setCell ⟨p, 0, none⟩ (.slice none 0 0)).heap[p]? = some (.cells #[.slice none 0 0, .bool b, .int .i64 E] 67 (0, 0)) := by
    rw [setCell_eq_setRow _ p 0 _ _ (0, 0) _ e1]
    exact setRow_heap _ p _ _ _ _ e1
  refine nexted_end (v' := .slice none 0 0) ⟨e2, .inl ⟨rfl, rfl⟩⟩ ⟨hB.os, hB.tape, hB.output, by simpa [World.setCell] using hB.size, fun k hk hkp _ => ?_⟩ (by simp [Value.ownBlock]) h.own.lt (Nat.le_refl _) h.lt
  exact (Below.heap_setCell _ _ _ _ hkp).trans ((Below.heap_setCell _ _ _ _ hkp).trans (hB.block k hk))

/-- Behind the drop: what the rest of Next reads, and what it leaves. -/
theorem good_end {w wc w2 : World} {p q : Nat} {v v' : Value} {s s' : ByteArray} {b : Bool} {T : Int} {B : ByteArray} (h : RIs w p v s b 0) (hB : Below w.heap.size w wc) (hx : ∀ i : Nat, wc.cell? ⟨q, i, none⟩ = (#[.int .u8 T, .string B] : Array Value)[i]?) (hy : ∀ i : Nat, wc.cell? ⟨w.heap.size, i, none⟩ = (#[.int .u8 0, .string { data := #[] }] : Array Value)[i]?)
    (hyf : ∀ i : Nat, wc.frozen? ⟨w.heap.size, i, none⟩ = false) (hq1 : w.heap.size < q) (hq2 : q < wc.heap.size) (hR2 : RIs w2 p v' s' false 0) (hT2 : Turned (wc.setCell ⟨p, 1, none⟩ (.bool false)) w2 p none) (hs2 : ∀ k, v'.ownBlock = some k → v.ownBlock = some k) :
    (∀ i : Nat, w2.cell? ⟨q, i, none⟩ = (#[.int .u8 T, .string B] : Array Value)[i]?) ∧ (∀ i : Nat, w2.cell? ⟨w.heap.size, i, none⟩ = (#[.int .u8 0, .string { data := #[] }] : Array Value)[i]?) ∧ (∀ i : Nat, w2.frozen? ⟨w.heap.size, i, none⟩ = false) ∧
      Nexted p v s' false 0 w ((w2.setCell ⟨w.heap.size, 0, none⟩ (.int .u8 T)).setCell ⟨w.heap.size, 1, none⟩ (.string B)) := by
  have hp := h.lt
  have hz := hB.size
  have hk : ∀ k, k < wc.heap.size → k ≠ p → w2.heap[k]? = wc.heap[k]? := fun k hk hkp =>
    (hT2.block k (by simpa [World.setCell] using hk) hkp (by simp)).trans (Below.heap_setCell _ _ _ _ hkp)
  refine ⟨fun i => (World.cell?_of_block (a := ⟨q, i, none⟩) (hk q hq2 (by omega))).trans (hx i), fun i => (World.cell?_of_block (a := ⟨w.heap.size, i, none⟩) (hk w.heap.size (by omega) (by omega))).trans (hy i), fun i => (World.frozen?_of_block (a := ⟨w.heap.size, i, none⟩) (hk w.heap.size (by omega) (by omega))).trans (hyf i), ?_⟩
  refine nexted_end hR2 ⟨hT2.os.trans hB.os, hT2.tape.trans hB.tape, hT2.output.trans hB.output, ?_, fun k h1 hkp _ => (hk k (by omega) hkp).trans (hB.block k h1)⟩ hs2 h.own.lt (Nat.le_refl _) hp
  have := hT2.size
  simp [World.setCell] at this
  omega
end Go.Proofs.YtmofnkinclckoaaGreatDoor

namespace Go.Proofs.YtmofnkinclckoaaGreatDoor
open Go.RowKit Go.Lib

theorem Turned.box {w w' : World} {p k : Nat} {row : Option Nat} {A : Array Value} (h : Turned w w' p row) (hA : ∀ i : Nat, w.cell? ⟨k, i, none⟩ = A[i]?) (hk : k < w.heap.size) (hp : k ≠ p) (hr : some k ≠ row) : ∀ i : Nat, w'.cell? ⟨k, i, none⟩ = A[i]? :=
  fun i => (World.cell?_of_block (a := ⟨k, i, none⟩) (h.block k hk hp hr)).trans (hA i)

theorem below_box {w w' : World} {k : Nat} {A : Array Value} (h : Below w.heap.size w w') (hA : ∀ i : Nat, w.cell? ⟨k, i, none⟩ = A[i]?) (hk : k < w.heap.size) : ∀ i : Nat, w'.cell? ⟨k, i, none⟩ = A[i]? :=
  fun i => (h.cell (p := ⟨k, i, none⟩) hk).trans (hA i)

theorem alloc_box {w : World} {k : Nat} {A : Array Value} {o : Obj} (hA : ∀ i : Nat, w.cell? ⟨k, i, none⟩ = A[i]?) (hk : k < w.heap.size) : ∀ i : Nat, (w.alloc o).cell? ⟨k, i, none⟩ = A[i]? :=
  fun i => (World.cell?_alloc_past _ _ _ hk).trans (hA i)

theorem RIs.alloc {w : World} {p : Nat} {v : Value} {s : ByteArray} {b : Bool} {e : Int} (h : RIs w p v s b e) (o : Obj) : RIs (w.alloc o) p v s b e :=
  h.grown ((Below.refl _ _).alloc (Nat.le_refl _) o)

theorem RIs.turned {w w' : World} {p q : Nat} {v : Value} {s : ByteArray} {b : Bool} {e : Int} {row : Option Nat} (h : RIs w p v s b e) (ht : Turned w w' q row) (hp : p ≠ q) (hr : some p ≠ row) (hv : ∀ k, v.ownBlock = some k → k ≠ q ∧ some k ≠ row) : RIs w' p v s b e :=
  ⟨(ht.block p h.lt hp hr).trans h.heap, h.own.kept (fun k hk => ht.block k (h.own.lt k hk) (hv k hk).1 (hv k hk).2)⟩

theorem two_readers (w : World) (b b' : Bool) :
    RIs ((w.alloc (.cells #[.slice none 0 0, .bool b, .int .i64 0] 67)).alloc (.cells #[.slice none 0 0, .bool b', .int .i64 0] 67)) w.heap.size (.slice none 0 0) { data := #[] } b 0 ∧
      RIs ((w.alloc (.cells #[.slice none 0 0, .bool b, .int .i64 0] 67)).alloc (.cells #[.slice none 0 0, .bool b', .int .i64 0] 67)) (w.heap.size + 1) (.slice none 0 0) { data := #[] } b' 0 := by
  refine ⟨⟨?_, .inl ⟨rfl, rfl⟩⟩, ⟨?_, .inl ⟨rfl, rfl⟩⟩⟩
  · rw [heap_alloc_old _ _ (by simp)]
    exact heap_alloc_new w _
  · have := heap_alloc_new (w.alloc (.cells #[.slice none 0 0, .bool b, .int .i64 0] 67)) (.cells #[.slice none 0 0, .bool b', .int .i64 0] 67)
    rw [World.size_alloc] at this
    exact this

theorem one_reader (w : World) (b : Bool) : RIs (w.alloc (.cells #[.slice none 0 0, .bool b, .int .i64 0] 67)) w.heap.size (.slice none 0 0) { data := #[] } b 0 :=
  ⟨heap_alloc_new w _, .inl ⟨rfl, rfl⟩⟩
end Go.Proofs.YtmofnkinclckoaaGreatDoor
