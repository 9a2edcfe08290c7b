/- Contracts of wire.Pack: what it answers to any frame. -/
import Derived.Test.YtfdffiphlpeegaaRows
import Derived.Test.YtfdffiphlpeegaaPlain
namespace Go.Proofs.Ytfdffiphlpeegaa
open Go.RowKit Go.Lib

theorem Try.info5 : (Try.prog.info? 5).map (fun i => (i.zero, i.size, i.bytes)) = some (some (.int .u8 0), 1, 1) := by kernel_rfl

theorem four_cells (w : World) (a b c d : Value) (T : TypeId) : ∀ j u, [a, b, c, d][j]? = some u → (w.alloc (.cells #[a, b, c, d] T)).cell? ((⟨w.heap.size, 0, none⟩ : Addr).add j) = some u := by
  intro j u hj
  match j, hj with
  | 0, hj => simp at hj; subst hj; simp [Addr.add, go_sem]
  | 1, hj => simp at hj; subst hj; simp [Addr.add, go_sem]
  | 2, hj => simp at hj; subst hj; simp [Addr.add, go_sem]
  | 3, hj => simp at hj; subst hj; simp [Addr.add, go_sem]
  | n + 4, hj => simp at hj

theorem one_cell (w : World) (a : Value) (T : TypeId) : ∀ j u, [a][j]? = some u → (w.alloc (.cells #[a] T)).cell? ((⟨w.heap.size, 0, none⟩ : Addr).add j) = some u := by
  intro j u hj
  match j, hj with
  | 0, hj => simp at hj; subst hj; simp [Addr.add, go_sem]
  | n + 1, hj => simp at hj

theorem ownsRow_is {w : World} {base : Nat} {e : TypeId} {v : Value} {n : Nat} {xs : List Value} (R : ByteArray) (h : w.ownsRow base e 1 v n xs) (hx : xs = strCells R) : w.ownsRow base e 1 v R.size (strCells R) := by
  subst hx
  have hn : n = R.size := by have := h.1; rw [strCells_length] at this; omega
  subst hn; exact h

theorem pack_cells (t : Int) (s : ByteArray) (hs : s.size ≤ 10000) (pre : List Value) (hp : pre = cellsOf (if t = 0 then [] else [UInt8.ofNat t.toNat])) :
    pre ++ [.int .u8 (((s.size : Int) + 4) / 16777216), .int .u8 (((s.size : Int) + 4) / 65536), .int .u8 (((s.size : Int) + 4) / 256), .int .u8 (((s.size : Int) + 4) % 256)] ++ strCells s = strCells (packB t s) := by
  rw [strCells_eq', strCells_eq', packB_list, packL, cellsOf_append, cellsOf_append, size_list, be4_cells _ (by omega), hp]
  simp

theorem pack_long (t : Int) (s : ByteArray) (w : World) (hs : 10000 < s.size) :
    Calls Try.prog 20 #[.agg #[.int .u8 t, .string s]] w fun e w' => e = .returned (.tuple #[.string { data := #[] }, .int .i64 3]) ∧ Below w.heap.size w w' := by
  have h' : (10000 : Int) < s.size := by omega
  go_enter Try.func20, Try.ntmps20
  go_wp2
  go_ret2
  exact ⟨rfl, (Below.refl _ _).alloc (Nat.le_refl _) _⟩

set_option maxHeartbeats 800000 in
theorem pack_bare (s : ByteArray) (w : World) (hs : s.size ≤ 10000) :
    Calls Try.prog 20 #[.agg #[.int .u8 0, .string s]] w fun e w' => e = .returned (.tuple #[.string (packB 0 s), .int .i64 0]) ∧ Below w.heap.size w w' := by
  obtain ⟨i0, hi, hz0, hz1, hz2⟩ := info_parts Try.info5
  go_enter Try.func20, Try.ntmps20
  go_wp2_with (at_make; refine wpList_make_own _ rfl _ _ 62 rfl (w.heap.size + 1) 5 i0 (.int .u8 0) 1 Try.underlying62 hi hz0 hz1 _ _ _ (5 + s.size) rfl rfl ?bb ?b1 ?b2 ?b3 ?_)
  case bb => simp
  case b1 => rw [hz2]; omega
  case b2 => simp [maxLen]; omega
  case b3 => simp
  intro w1 hown hgrow
  have hc0 : w1.cell? ⟨w.heap.size, 0, none⟩ = some (.int .u8 0) := hgrow.cell (by simp [go_sem]) (by simp)
  have hc1 : w1.cell? ⟨w.heap.size, 1, none⟩ = some (.string s) := hgrow.cell (by simp [go_sem]) (by simp)
  have hB : Below w.heap.size w w1 := ((Below.refl _ _).alloc (Nat.le_refl _) _).grown hgrow (by simp) (by simp)
  have hz3 : w.heap.size + 1 < w1.heap.size := (hown.lt _ rfl).2
  clear hgrow
  go_wp2_with (at_builtin; refine wpList_append_own _ rfl (.tmp 28) (.tmp 40) 62 rfl (w.heap.size + 1) 5 i0 (.int .u8 0) 1 1 Try.underlying62 hi hz0 hz1 hz2 rfl (by decide) _ _ _ rfl (hown.alloc _) ⟨w1.heap.size, 0, none⟩ 4 4 [.int .u8 (((s.size : Int) + 4) / 16777216), .int .u8 (((s.size : Int) + 4) / 65536), .int .u8 (((s.size : Int) + 4) / 256), .int .u8 (((s.size : Int) + 4) % 256)] rfl rfl (four_cells _ _ _ _ _ _) (by simp [Value.oneCell']) (by unfold maxLen; omega) (by omega) (by simp; omega) ?_)
  intro v3 w3 hown3 hgrow3 _
  have hlt := (hown.lt)
  have hB3 : Below w.heap.size w w3 := (hB.alloc (by omega) _).grown hgrow3 (by simp; omega) (by intro k hk; have := (hlt k hk).1; omega)
  have hc13 : w3.cell? ⟨w.heap.size, 1, none⟩ = some (.string s) := hgrow3.cell ((World.cell?_alloc_past _ _ _ (by show w.heap.size < _; omega)).trans hc1) (by intro hk; have : w.heap.size + 1 ≤ w.heap.size := (hlt _ hk.symm).1; omega)
  have hz5 : w.heap.size + 1 < w3.heap.size := by have := hgrow3.size; simp at this; omega
  clear hgrow3 hlt hown hc0 hc1 hz3 hB
  go_wp2_with (at_builtin; refine wpList_append_own_string _ rfl (.tmp 42) (.tmp 44) 62 9 rfl (w.heap.size + 1) 5 i0 Try.underlying62 Try.underlying9 hi hz0 hz1 hz2 _ _ _ rfl hown3 s rfl (by unfold maxLen; omega) (by omega) (by omega) ?_)
  intro v4 w4 hown4 hgrow4 _
  have hlt := (hown3.lt)
  have hB4 : Below w.heap.size w w4 := hB3.grown hgrow4 (by omega) (by intro k hk; have := (hlt k hk).1; omega)
  have hconv := conv_str (P := Try.prog) (src := 62) (e := 5) (dst := 9) (packB 0 s) Try.underlying62 Try.underlying5 Try.underlying9 (ownsRow_is (packB 0 s) hown4 (by exact pack_cells 0 s hs [] (by simp [cellsOf])))
  clear hgrow4 hlt hown4 hown3 hB3 hz5 hc13
  go_wp2
  go_ret2
  exact ⟨rfl, hB4⟩

set_option maxHeartbeats 800000 in
theorem pack_type (t : Int) (s : ByteArray) (w : World) (hs : s.size ≤ 10000) (h0 : 0 < t) (h1 : t < 256) :
    Calls Try.prog 20 #[.agg #[.int .u8 t, .string s]] w fun e w' => e = .returned (.tuple #[.string (packB t s), .int .i64 0]) ∧ Below w.heap.size w w' := by
  obtain ⟨i0, hi, hz0, hz1, hz2⟩ := info_parts Try.info5
  have htb : (t == 0) = false := by simp; omega
  have htn : (t != 0) = true := by simp; omega
  go_enter Try.func20, Try.ntmps20
  go_wp2_with (at_make; refine wpList_make_own _ rfl _ _ 62 rfl (w.heap.size + 1) 5 i0 (.int .u8 0) 1 Try.underlying62 hi hz0 hz1 _ _ _ (5 + s.size) rfl rfl ?bb ?b1 ?b2 ?b3 ?_)
  case bb => simp
  case b1 => rw [hz2]; omega
  case b2 => simp [maxLen]; omega
  case b3 => simp
  intro w1 hown hgrow
  have hc0 : w1.cell? ⟨w.heap.size, 0, none⟩ = some (.int .u8 t) := hgrow.cell (by simp [go_sem]) (by simp)
  have hc1 : w1.cell? ⟨w.heap.size, 1, none⟩ = some (.string s) := hgrow.cell (by simp [go_sem]) (by simp)
  have hB : Below w.heap.size w w1 := ((Below.refl _ _).alloc (Nat.le_refl _) _).grown hgrow (by simp) (by simp)
  have hz3 : w.heap.size + 1 < w1.heap.size := (hown.lt _ rfl).2
  clear hgrow
  go_wp2_with (at_builtin; refine wpList_append_own _ rfl (.tmp 23) (.tmp 26) 62 rfl (w.heap.size + 1) 5 i0 (.int .u8 0) 1 1 Try.underlying62 hi hz0 hz1 hz2 rfl (by decide) _ _ _ rfl (hown.alloc _) ⟨w1.heap.size, 0, none⟩ 1 1 [.int .u8 t] rfl rfl (one_cell _ _ _) (by simp [Value.oneCell']) (by unfold maxLen; omega) (by omega) (by simp; omega) ?_)
  intro v2 w2 hown2 hgrow2 _
  have hB2 : Below w.heap.size w w2 := (hB.alloc (by omega) _).grown hgrow2 (by simp; omega) (by intro k hk; simp [Value.ownBlock] at hk; omega)
  have hc02 : w2.cell? ⟨w.heap.size, 0, none⟩ = some (.int .u8 t) := hgrow2.cell ((World.cell?_alloc_past _ _ _ (by show w.heap.size < _; omega)).trans hc0) (by simp [Value.ownBlock])
  have hc12 : w2.cell? ⟨w.heap.size, 1, none⟩ = some (.string s) := hgrow2.cell ((World.cell?_alloc_past _ _ _ (by show w.heap.size < _; omega)).trans hc1) (by simp [Value.ownBlock])
  have hz4 : w.heap.size + 1 < w2.heap.size := by have := hgrow2.size; simp at this; omega
  clear hgrow2 hown hc0 hc1 hz3 hB
  go_wp2_with (at_builtin; refine wpList_append_own _ rfl (.tmp 28) (.tmp 40) 62 rfl (w.heap.size + 1) 5 i0 (.int .u8 0) 1 1 Try.underlying62 hi hz0 hz1 hz2 rfl (by decide) _ _ _ rfl (hown2.alloc _) ⟨w2.heap.size, 0, none⟩ 4 4 [.int .u8 (((s.size : Int) + 4) / 16777216), .int .u8 (((s.size : Int) + 4) / 65536), .int .u8 (((s.size : Int) + 4) / 256), .int .u8 (((s.size : Int) + 4) % 256)] rfl rfl (four_cells _ _ _ _ _ _) (by simp [Value.oneCell']) (by unfold maxLen; omega) (by omega) (by simp; omega) ?_)
  intro v3 w3 hown3 hgrow3 _
  have hlt := (hown2.lt)
  have hB3 : Below w.heap.size w w3 := (hB2.alloc (by omega) _).grown hgrow3 (by simp; omega) (by intro k hk; have := (hlt k hk).1; omega)
  have hc13 : w3.cell? ⟨w.heap.size, 1, none⟩ = some (.string s) := hgrow3.cell ((World.cell?_alloc_past _ _ _ (by show w.heap.size < _; omega)).trans hc12) (by intro hk; have : w.heap.size + 1 ≤ w.heap.size := (hlt _ hk.symm).1; omega)
  have hz5 : w.heap.size + 1 < w3.heap.size := by have := hgrow3.size; simp at this; omega
  clear hgrow3 hlt hown2 hc02 hc12 hz4 hB2
  go_wp2_with (at_builtin; refine wpList_append_own_string _ rfl (.tmp 42) (.tmp 44) 62 9 rfl (w.heap.size + 1) 5 i0 Try.underlying62 Try.underlying9 hi hz0 hz1 hz2 _ _ _ rfl hown3 s rfl (by unfold maxLen; omega) (by omega) (by omega) ?_)
  intro v4 w4 hown4 hgrow4 _
  have hlt := (hown3.lt)
  have hB4 : Below w.heap.size w w4 := hB3.grown hgrow4 (by omega) (by intro k hk; have := (hlt k hk).1; omega)
  have hconv := conv_str (P := Try.prog) (src := 62) (e := 5) (dst := 9) (packB t s) Try.underlying62 Try.underlying5 Try.underlying9 (ownsRow_is (packB t s) hown4 (by exact pack_cells t s hs [.int .u8 t] (by rw [if_neg (by omega)]; simp [cellsOf]; omega)))
  clear hgrow4 hlt hown4 hown3 hB3 hz5 hc13
  go_wp2
  go_ret2
  exact ⟨rfl, hB4⟩

theorem pack_any (t : Int) (s : ByteArray) (w : World) (hs : s.size ≤ 10000) (h : 0 ≤ t ∧ t < 256) :
    Calls Try.prog 20 #[.agg #[.int .u8 t, .string s]] w fun e w' => e = .returned (.tuple #[.string (packB t s), .int .i64 0]) ∧ Below w.heap.size w w' := by
  by_cases h0 : t = 0
  · subst h0; exact pack_bare s w hs
  · exact pack_type t s w hs (by omega) h.2
end Go.Proofs.Ytfdffiphlpeegaa
