/- The reader's own calls: what each leaves of a reader. -/
import Derived.Test.YtjohgfcfnlilmaaRows
import Derived.Test.YtjohgfcfnlilmaaReadOwn
import Derived.Test.YtjohgfcfnlilmaaReadB
import Derived.Test.YtjohgfcfnlilmaaPack
import Derived.Deep.RegionWith
namespace Go.Proofs.Ytjohgfcfnlilmaa
open Go.RowKit Go.Lib

/-- The reader in block p: what it holds, whether its next frame is bare, the error that ended it. -/
structure RIs (w : World) (p : Nat) (v : Value) (s : ByteArray) (bare : Bool) (e : Int) : Prop where
  heap : w.heap[p]? = some (.cells #[v, .bool bare, .int .i64 e] 62 (0, 0))
  own : OwnB w 5 p v s

/-- Nothing that was there has turned, but for block p and one row. -/
structure Turned (w w' : World) (p : Nat) (row : Option Nat) : Prop where
  os : w'.os = w.os
  tape : w'.tape = w.tape
  output : w'.output = w.output
  size : w.heap.size ≤ w'.heap.size
  block : ∀ k, k < w.heap.size → k ≠ p → some k ≠ row → w'.heap[k]? = w.heap[k]?

theorem Turned.below {w w' : World} {p : Nat} {row : Option Nat} {B : Nat} (h : Turned w w' p row) (hB : B ≤ w.heap.size) (hp : B ≤ p) (hr : ∀ k, row = some k → B ≤ k) : Below B w w' :=
  ⟨h.os, h.tape, h.output, h.size, fun k hk => h.block k (by omega) (by omega) (fun e => by have := hr k e.symm; omega)⟩

theorem Turned.refl (w : World) (p : Nat) (row : Option Nat) : Turned w w p row := ⟨rfl, rfl, rfl, Nat.le_refl _, fun _ _ _ _ => rfl⟩

theorem RIs.cell {w : World} {p : Nat} {v : Value} {s : ByteArray} {bare : Bool} {e : Int} (h : RIs w p v s bare e) :
    w.cell? ⟨p, 0, none⟩ = some v ∧ w.cell? ⟨p, 1, none⟩ = some (.bool bare) ∧ w.cell? ⟨p, 2, none⟩ = some (.int .i64 e) := by
  refine ⟨?_, ?_, ?_⟩ <;> rw [cell_of_row w p _ _ _ (0, 0) h.heap] <;> rfl

theorem RIs.frozen {w : World} {p : Nat} {v : Value} {s : ByteArray} {bare : Bool} {e : Int} (h : RIs w p v s bare e) (i : Nat) : w.frozen? ⟨p, i, none⟩ = false := by
  simp [World.frozen?, h.heap]

theorem RIs.lt {w : World} {p : Nat} {v : Value} {s : ByteArray} {bare : Bool} {e : Int} (h : RIs w p v s bare e) : p < w.heap.size := (Array.getElem?_eq_some_iff.1 h.heap).1

theorem OwnB.form {w : World} {e : TypeId} {p : Nat} {v : Value} {s : ByteArray} (h : OwnB w e p v s) : ∃ a c, v = .slice a s.size c := by
  rcases h with ⟨rfl, h0⟩ | ⟨g, o, cap, cur, rfl, _⟩
  · exact ⟨none, 0, by rw [h0]⟩
  · exact ⟨_, _, rfl⟩

theorem OwnB.ne {w : World} {e : TypeId} {p : Nat} {v : Value} {s : ByteArray} (h : OwnB w e p v s) : some p ≠ v.ownBlock := by
  rcases h with ⟨rfl, h0⟩ | ⟨g, o, cap, cur, rfl, hg, _⟩
  · simp [Value.ownBlock]
  · simp [Value.ownBlock]; omega

theorem OwnB.lt {w : World} {e : TypeId} {p : Nat} {v : Value} {s : ByteArray} (h : OwnB w e p v s) : ∀ k, v.ownBlock = some k → k < w.heap.size := by
  rcases h with ⟨rfl, h0⟩ | ⟨g, o, cap, cur, rfl, hg, h1, _⟩
  · simp [Value.ownBlock]
  · intro k hk
    simp [Value.ownBlock] at hk
    subst hk
    exact (Array.getElem?_eq_some_iff.1 h1).1

theorem OwnB.reads {w : World} {e : TypeId} {p : Nat} {v : Value} {s : ByteArray} (h : OwnB w e p v s) : Reads w v s := by
  rcases h with h | ⟨g, o, cap, cur, rfl, hg, h1, hc, hcm, hcs, hr⟩
  · exact .inl h
  · refine .inr ⟨g, o, cap, rfl, hc, (Array.getElem?_eq_some_iff.1 h1).1, fun i hi => ?_⟩
    rw [cell_of_row w g (o + i) cur e (0, 0) h1, ← hr, List.getElem?_take_of_lt hi, List.getElem?_drop]
    simp

theorem wpList_feed {P : Program} {w : World} {ops : Array Oper} {rest : List Oper} {o : Oper} {a : Act} {Q : Exit → Act → World → Prop} (hgd : o.guard = none) (sl x : Operand) (t u e : TypeId)
    (ho : o.op = .call { callee := .builtin .append, args := #[sl, x], argTypes := #[t, u] })
    (i : TypeInfo) (ht : P.underlying t = some (.slice e)) (hu : P.underlying u = some .string) (hi : P.info? e = some i) (hz : i.zero = some (.int .u8 0)) (hsize : i.size = 1) (hby : i.bytes = 1)
    (p : Nat) (hp : p < w.heap.size) (v : Value) (s y : ByteArray) (hv : OwnB w e p v s) (hy : y.size ≤ 140737488355328) (hb : s.size + y.size ≤ 200000000000000) (hs : a.eval sl = v) (hx : a.eval x = .string y)
    (h : ∀ v' w', OwnB w' e p v' (s ++ y) → w.grownBy w' v.ownBlock → (∀ k, v'.ownBlock = some k → v.ownBlock = some k ∨ w.heap.size ≤ k) → wpList P ops Q rest (a.put o.dst v') w') : wpList P ops Q (o :: rest) a w := by
  refine wpList_plain hgd fun K hK => ?_
  obtain ⟨v', w', hr, h2, h3, h4⟩ := run_feed (P := P) w t u o.type e i ht hu hi hz hsize hby p hp v s y hv hy hb
  unfold Oper.wp execOp
  simp only [ho, resolve, invoke, builtin, Sem.run_bind, Sem.run_pure, Result.andThen_ok, List.map_toArray, List.map_cons, List.map_nil, hs, hx, hr]
  exact hK _ _ (h v' w' h2 h3 h4)

theorem new_any (bare : Bool) (w : World) :
    Calls Try.prog 18 #[.bool bare] w fun e w' => e = .returned (.pointer (some ⟨w.heap.size, 0, none⟩)) ∧ w' = w.alloc (.cells #[.slice none 0 0, .bool bare, .int .i64 0] 62) := by
  go_enter Try.func18, Try.ntmps18
  go_wp2
  go_ret
  exact ⟨rfl, rfl⟩

theorem left_any (p : Nat) (v : Value) (s : ByteArray) (bare : Bool) (e : Int) (w : World) (h : RIs w p v s bare e) :
    Calls Try.prog 22 #[.pointer (some ⟨p, 0, none⟩)] w fun e w' => e = .returned (.int .i64 s.size) ∧ w = w' := by
  obtain ⟨c0, _, _⟩ := h.cell
  obtain ⟨a, c, hv⟩ := h.own.form
  rw [hv] at c0
  clear h hv
  go_enter Try.func22, Try.ntmps22
  go_wp2
  go_ret
  exact ⟨rfl, rfl⟩

theorem feed_ended (p : Nat) (v : Value) (s x : ByteArray) (bare : Bool) (e : Int) (w : World) (h : RIs w p v s bare e) (he : ¬ e = 0) :
    Calls Try.prog 19 #[.pointer (some ⟨p, 0, none⟩), .string x] w fun e w' => e = .returned (.tuple #[]) ∧ w = w' := by
  obtain ⟨c0, c1, c2⟩ := h.cell
  have hb : (e == 0) = false := by simpa using he
  clear h
  go_enter Try.func19, Try.ntmps19
  go_wp2
  go_end0
  exact ⟨rfl, rfl⟩

def Fed (p : Nat) (v : Value) (s x : ByteArray) (bare : Bool) (w : World) (e : Ending) (w' : World) : Prop :=
  e = .returned (.tuple #[]) ∧ ∃ v', RIs w' p v' (s ++ x) bare 0 ∧ Turned w w' p v.ownBlock ∧ (∀ k, v'.ownBlock = some k → v.ownBlock = some k ∨ w.heap.size ≤ k)

theorem fed_end {p : Nat} {v v1 : Value} {s x : ByteArray} {bare : Bool} {w w1 : World} (hown : OwnB w1 5 p v1 (s ++ x)) (h : RIs w p v s bare 0) (hgr : w.grownBy w1 v.ownBlock) (hnew : ∀ k, v1.ownBlock = some k → v.ownBlock = some k ∨ w.heap.size ≤ k) :
    Fed p v s x bare w (.returned (.tuple #[])) (w1.setCell ⟨p, 0, none⟩ v1) := by
  have hkeep : w1.heap[p]? = w.heap[p]? := hgr.block p h.lt h.own.ne
  have h1 := hkeep.trans h.heap
  have hput : (w1.setCell ⟨p, 0, none⟩ v1).heap[p]? = some (.cells #[v1, .bool bare, .int .i64 0] 62 (0, 0)) := by
    rw [setCell_eq_setRow w1 p 0 _ _ (0, 0) v1 h1]
    exact setRow_heap w1 p _ _ _ _ h1
  have hoth : ∀ k, k ≠ p → (w1.setCell ⟨p, 0, none⟩ v1).heap[k]? = w1.heap[k]? := fun k hk => Below.heap_setCell _ _ _ _ hk
  refine ⟨rfl, v1, ⟨hput, hown.kept (fun k hk => hoth k (fun e => hown.ne (by rw [hk, e])))⟩, ⟨hgr.os, hgr.tape, hgr.output, ?_, fun k hk hkp hkr => (hoth k hkp).trans (hgr.block k hk hkr)⟩, hnew⟩
  simpa [World.setCell] using hgr.size

set_option maxHeartbeats 800000 in
theorem feed_wide (p : Nat) (v : Value) (s x : ByteArray) (bare : Bool) (w : World) (h : RIs w p v s bare 0) (hy : x.size ≤ 140737488355328) (hb : s.size + x.size ≤ 200000000000000) :
    Calls Try.prog 19 #[.pointer (some ⟨p, 0, none⟩), .string x] w (Fed p v s x bare w) := by
  obtain ⟨i0, hi, hz0, hz1, hz2⟩ := info_parts Try.info5
  obtain ⟨c0, c1, c2⟩ := h.cell
  have f0 := h.frozen 0
  have hp := h.lt
  obtain ⟨a, c, hv⟩ := h.own.form
  have HV := Lib.hid hv
  have c0' := c0
  rw [hv] at c0'
  clear hv c0
  have H := Lib.hid h
  clear h
  go_enter Try.func19, Try.ntmps19
  go_wp2_with (at_builtin; refine wpList_feed rfl (.tmp 13) (.tmp 14) 57 9 5 rfl i0 Try.underlying57 Try.underlying9 hi hz0 hz1 hz2 p hp v s x H.out.own hy hb HV.out.symm rfl ?_)
  intro v1 w1 hown hgr hnew
  have hkeep : w1.heap[p]? = w.heap[p]? := hgr.block p hp H.out.own.ne
  obtain ⟨a1, c3, hv1⟩ := hown.form
  rw [append_size] at hv1
  have hc1 : w1.cell? ⟨p, 0, none⟩ = some (.slice a s.size c) := (World.cell?_of_block (a := ⟨p, 0, none⟩) hkeep).trans c0'
  have hf1 : w1.frozen? ⟨p, 0, none⟩ = false := (World.frozen?_of_block (a := ⟨p, 0, none⟩) hkeep).trans f0
  have hfin := Lib.hid (fed_end hown H.out hgr hnew)
  rw [hv1] at hfin ⊢
  clear hown hgr hnew hkeep c0' f0 hv1 HV H
  go_wp2
  go_end0
  exact hfin.out

theorem feed_any (p : Nat) (v : Value) (s x : ByteArray) (bare : Bool) (w : World) (h : RIs w p v s bare 0) (hb : s.size + x.size ≤ 140737488355328) :
    Calls Try.prog 19 #[.pointer (some ⟨p, 0, none⟩), .string x] w (Fed p v s x bare w) :=
  feed_wide p v s x bare w h (by omega) (by omega)

def Dropped (p : Nat) (v : Value) (s : ByteArray) (n : Nat) (bare : Bool) (er : Int) (w : World) (e : Ending) (w' : World) : Prop :=
  e = .returned (.tuple #[]) ∧ ∃ v', RIs w' p v' (s.extract n s.size) bare er ∧ Turned w w' p none ∧ (∀ k, v'.ownBlock = some k → v.ownBlock = some k)

/-- What a reader is behind stores into its first cell. -/
theorem put_left {p : Nat} {v v1 : Value} {s s1 : ByteArray} {bare : Bool} {er : Int} {w : World} (h : RIs w p v s bare er) (hown : OwnB w 5 p v1 s1) (hsub : ∀ k, v1.ownBlock = some k → v.ownBlock = some k) :
    ∃ v', RIs (w.setCell ⟨p, 0, none⟩ v1) p v' s1 bare er ∧ Turned w (w.setCell ⟨p, 0, none⟩ v1) p none ∧ (∀ k, v'.ownBlock = some k → v.ownBlock = some k) := by
  have hput : (w.setCell ⟨p, 0, none⟩ v1).heap[p]? = some (.cells #[v1, .bool bare, .int .i64 er] 62 (0, 0)) := by
    rw [setCell_eq_setRow w p 0 _ _ (0, 0) v1 h.heap]
    exact setRow_heap w p _ _ _ _ h.heap
  have hoth : ∀ k, k ≠ p → (w.setCell ⟨p, 0, none⟩ v1).heap[k]? = w.heap[k]? := fun k hk => Below.heap_setCell _ _ _ _ hk
  exact ⟨v1, ⟨hput, hown.kept (fun k hk => hoth k (fun e => hown.ne (by rw [hk, e])))⟩, ⟨rfl, rfl, rfl, by simp [World.setCell], fun k _ hkp _ => hoth k hkp⟩, hsub⟩

theorem cut_own {w : World} {e : TypeId} {p g o cap n : Nat} {s : ByteArray} (h : OwnB w e p (.slice (some ⟨g, o, none⟩) s.size cap) s) (hn : n < s.size) :
    OwnB w e p (.slice (some ⟨g, o + n, none⟩) (s.size - n) (cap - n)) (s.extract n s.size) := by
  have hz : (s.extract n s.size).size = s.size - n := by simp
  rcases h with ⟨h0, _⟩ | ⟨g', o', cap', cur, hv, hg, h1, hc, hcm, hcs, hr⟩
  · cases h0
  · obtain ⟨rfl, rfl, rfl⟩ : g = g' ∧ o = o' ∧ cap = cap' := by simp at hv; omega
    refine .inr ⟨g, o + n, cap - n, cur, by rw [hz], hg, h1, by omega, by omega, by omega, ?_⟩
    have e1 : (s.extract n s.size).data.toList = s.data.toList.drop n := by
      rw [extract_data]; exact List.take_of_length_le (by rw [List.length_drop, size_list]; omega)
    have e2 : cellsOf (s.data.toList.drop n) = (cellsOf s.data.toList).drop n := by simp [cellsOf, List.map_drop]
    rw [hz, e1, e2, ← hr, List.drop_take, List.drop_drop]

/-- A store into the first cell, and one more. -/
theorem put_twice {p : Nat} {v x : Value} {s : ByteArray} {bare : Bool} {er : Int} {w : World} (h : RIs w p v s bare er) :
    RIs ((w.setCell ⟨p, 0, none⟩ x).setCell ⟨p, 0, none⟩ (.slice none 0 0)) p (.slice none 0 0) (s.extract s.size s.size) bare er ∧ Turned w ((w.setCell ⟨p, 0, none⟩ x).setCell ⟨p, 0, none⟩ (.slice none 0 0)) p none := by
  have h1 : (w.setCell ⟨p, 0, none⟩ x).heap[p]? = some (.cells #[x, .bool bare, .int .i64 er] 62 (0, 0)) := by
    rw [setCell_eq_setRow w p 0 _ _ (0, 0) x h.heap]
    exact setRow_heap w p _ _ _ _ h.heap
  have h2 : ((w.setCell ⟨p, 0, none⟩ x).setCell ⟨p, 0, none⟩ (.slice none 0 0)).heap[p]? = some (.cells #[.slice none 0 0, .bool bare, .int .i64 er] 62 (0, 0)) := by
    rw [setCell_eq_setRow _ p 0 _ _ (0, 0) _ h1]
    exact setRow_heap _ p _ _ _ _ h1
  refine ⟨⟨h2, .inl ⟨rfl, by simp⟩⟩, ⟨rfl, rfl, rfl, by simp [World.setCell], fun k _ hkp _ => ?_⟩⟩
  exact (Below.heap_setCell _ _ _ _ hkp).trans (Below.heap_setCell _ _ _ _ hkp)

set_option maxHeartbeats 800000 in
theorem drop_some (p g o cap : Nat) (s : ByteArray) (n : Nat) (bare : Bool) (er : Int) (w : World) (h : RIs w p (.slice (some ⟨g, o, none⟩) s.size cap) s bare er) (hn : n < s.size) (hc : s.size ≤ cap) :
    Calls Try.prog 25 #[.pointer (some ⟨p, 0, none⟩), .int .i64 n] w (Dropped p (.slice (some ⟨g, o, none⟩) s.size cap) s n bare er w) := by
  obtain ⟨c0, c1, c2⟩ := h.cell
  have f0 := h.frozen 0
  have hcn : ¬ cap = n := by omega
  have hlen : ((s.size : Int) - n == 0) = false := by simp; omega
  have hlen2 : ((s.size - n : Nat) : Int) = (s.size : Int) - n := by omega
  have hfin := Lib.hid (put_left h (cut_own h.own hn) (fun k hk => hk))
  clear h
  go_enter Try.func25, Try.ntmps25
  go_wp2
  go_end0
  exact ⟨rfl, hfin.out⟩

set_option maxHeartbeats 800000 in
theorem drop_all (p g o cap : Nat) (s : ByteArray) (bare : Bool) (er : Int) (w : World) (h : RIs w p (.slice (some ⟨g, o, none⟩) s.size cap) s bare er) (hc : s.size ≤ cap) :
    Calls Try.prog 25 #[.pointer (some ⟨p, 0, none⟩), .int .i64 s.size] w (Dropped p (.slice (some ⟨g, o, none⟩) s.size cap) s s.size bare er w) := by
  obtain ⟨c0, c1, c2⟩ := h.cell
  have f0 := h.frozen 0
  have HF := fun x => Lib.hid (put_twice (x := x) h)
  clear h
  by_cases hcn : cap = s.size
  · subst hcn
    go_enter Try.func25, Try.ntmps25
    go_wp2
    go_end0
    exact ⟨rfl, _, (HF _).out.1, (HF _).out.2, by simp [Value.ownBlock]⟩
  · go_enter Try.func25, Try.ntmps25
    go_wp2
    go_end0
    exact ⟨rfl, _, (HF _).out.1, (HF _).out.2, by simp [Value.ownBlock]⟩

theorem drop_any (p : Nat) (v : Value) (s : ByteArray) (n : Nat) (bare : Bool) (er : Int) (w : World) (h : RIs w p v s bare er) (h0 : 0 < n) (hn : n ≤ s.size) :
    Calls Try.prog 25 #[.pointer (some ⟨p, 0, none⟩), .int .i64 n] w (Dropped p v s n bare er w) := by
  rcases h.own with ⟨_, hz⟩ | ⟨g, o, cap, cur, rfl, hg, h1, hc, _⟩
  · omega
  · by_cases hlt : n < s.size
    · exact drop_some p g o cap s n bare er w h hlt hc
    · obtain rfl : n = s.size := by omega
      exact drop_all p g o cap s bare er w h hc
end Go.Proofs.Ytjohgfcfnlilmaa
