/- Rows of pairs of the call's own; asPairs. -/
import Derived.Test.YtjckfdpkcaloiaaCells
import Derived.Deep.DeepAppendWide
import Derived.Deep.RegionLaw
namespace Go.Proofs.Ytjckfdpkcaloiaa
open Go.RowKit Go.Lib Go.WideShapes

theorem Try.info43 : (Try.prog.info? 43).map (fun i => (i.zero, i.size, i.bytes)) = some (some (.agg #[.string { data := #[] }, .string { data := #[] }]), 2, 32) := by kernel_rfl
theorem Try.info44 : (Try.prog.info? 44).map (fun i => (i.zero, i.size, i.bytes)) = some (some (.agg #[.string { data := #[] }, .string { data := #[] }]), 2, 32) := by kernel_rfl

def pairCells (g : Pairs) : List Value := g.flatMap fun q => [.string q.1, .string q.2]

theorem pairCells_snoc (g : Pairs) (q : ByteArray × ByteArray) : pairCells (g ++ [q]) = pairCells g ++ [.string q.1, .string q.2] := by simp [pairCells]
theorem pairCells_append (g h : Pairs) : pairCells (g ++ h) = pairCells g ++ pairCells h := by simp [pairCells]
theorem pairCells_length (g : Pairs) : (pairCells g).length = g.length * 2 := by
  induction g with
  | nil => rfl
  | cons q g ih => simp [pairCells] at ih ⊢; omega

theorem pairCells_at (g : Pairs) (j : Nat) (h : j < g.length) : (pairCells g)[j * 2]? = some (.string g[j].1) ∧ (pairCells g)[j * 2 + 1]? = some (.string g[j].2) := by
  induction g generalizing j with
  | nil => simp at h
  | cons q g ih =>
    cases j with
    | zero => simp [pairCells]
    | succ j =>
      have := ih j (by simpa using h)
      rw [show (j + 1) * 2 = j * 2 + 2 by omega, show j * 2 + 2 + 1 = j * 2 + 1 + 2 by omega]
      simpa [pairCells] using this

theorem one_cells (g : Pairs) : ∀ u ∈ pairCells g, u.oneCell' = true := by
  intro u hu
  simp only [pairCells, List.mem_flatMap, List.mem_cons, List.not_mem_nil, or_false] at hu
  obtain ⟨q, _, rfl | rfl⟩ := hu <;> rfl

theorem cells_none {g : Pairs} {j : Nat} {u : Value} (h : (pairCells g)[j]? = some u) : j < g.length * 2 := by
  rw [← pairCells_length]
  exact (List.getElem?_eq_some_iff.1 h).1

/-- The cells of a row that is held, one by one. -/
theorem Holds.cells {w : World} {b off c : Nat} {g : Pairs} (h : Holds w (.slice (some ⟨b, off, none⟩) g.length c) g) : ∀ j u, (pairCells g)[j]? = some u → w.cell? ⟨b, off + j, none⟩ = some u := by
  intro j u hu
  have hj := cells_none hu
  obtain ⟨b', off', ha, _, hc⟩ := h.open (by omega)
  simp only [Option.some.injEq, Addr.mk.injEq, and_true] at ha
  obtain ⟨rfl, rfl⟩ := ha
  have h2 := hc (j / 2) (by omega)
  have h3 := pairCells_at g (j / 2) (by omega)
  rcases Nat.mod_two_eq_zero_or_one j with e | e
  · rw [show j / 2 * 2 = j by omega] at h2 h3
    rw [h3.1] at hu
    rw [h2.1, ← Option.some.inj hu]
  · rw [show j / 2 * 2 + 1 = j by omega] at h3
    rw [show off + j / 2 * 2 + 1 = off + j by omega] at h2
    rw [h3.2] at hu
    rw [h2.2, ← Option.some.inj hu]

theorem ownsRow_form {w : World} {base size n : Nat} {e : TypeId} {v : Value} {xs : List Value} (h : w.ownsRow base e size v n xs) : ∃ a c, v = .slice a n c := by
  rcases h.2 with ⟨rfl, rfl⟩ | ⟨g, cap, _, rfl, _⟩
  · exact ⟨none, 0, rfl⟩
  · exact ⟨_, cap, rfl⟩

theorem own_holds {w : World} {base : Nat} {e : TypeId} {v : Value} {g : Pairs} (h : w.ownsRow base e 2 v g.length (pairCells g)) : Holds w v g := by
  rcases h.2 with ⟨rfl, h0⟩ | ⟨b, cap, cur, rfl, hb, hg, hn, hc, hcs, ht⟩
  · rw [List.eq_nil_of_length_eq_zero h0]; exact Holds.nil w
  · refine ⟨_, cap, rfl, hn, hc, by simp, .inr ⟨b, 0, rfl, (Array.getElem?_eq_some_iff.1 hg).1, fun i hi => ?_⟩⟩
    have h3 := pairCells_at g i hi
    rw [Nat.zero_add]
    exact ⟨(h.cellAt (i * 2) (by omega)).trans h3.1, (h.cellAt (i * 2 + 1) (by omega)).trans h3.2⟩

theorem own_grown {w w' : World} {base size n B : Nat} {e : TypeId} {v : Value} {xs : List Value} (h : w.ownsRow base e size v n xs) (hb : Below B w w') (hB : w.heap.size ≤ B) : w'.ownsRow base e size v n xs :=
  h.kept (row := none) ⟨hb.os, hb.tape, hb.output, hb.size, fun k hk _ => hb.block k (by omega)⟩ (by cases v.ownBlock <;> simp)

theorem step_append_own {P : Program} {w : World} {ops : Array Oper} {o : Oper} {a : Act} {K : Act → World → Prop} {Q : Exit → Act → World → Prop} {E : Prop} (hg : o.guard = none) (s x : Operand) (t : TypeId)
    (ho : o.op = .call { callee := .builtin .append, args := #[s, x], argTypes := #[t, t] })
    (base : Nat) (e : TypeId) (i : TypeInfo) (z : Value) (size bytes : Nat) (ht : P.underlying t = some (.slice e)) (hi : P.info? e = some i) (hz : i.zero = some z)
    (hsize : i.size = size) (hby : i.bytes = bytes) (hzs : z.cells.size = size) (hsz : 0 < size)
    (v : Value) (n : Nat) (xs : List Value) (hs : a.eval s = v) (hown : w.ownsRow base e size v n xs)
    (ad : Addr) (m c : Nat) (news : List Value) (hx : a.eval x = .slice (some ad) m c) (hl : news.length = m * size) (hnews : ∀ j u, news[j]? = some u → w.cell? (ad.add j) = some u) (h1 : ∀ u ∈ news, u.oneCell' = true)
    (h63 : n + m ≤ maxLen) (hbytes : ((n + m) + (n + m) / 4 + 192) * bytes ≤ 281474976710656) (hbase : base ≤ w.heap.size)
    (h : ∀ v' w', w'.ownsRow base e size v' (n + m) (xs ++ news) → w.grownBy w' v.ownBlock → K (a.put o.dst v') w') : if Region.wanted o (yielded ops a.tmps) = true then Oper.wp P o a w K Q else E := by
  have hw : Region.wanted o (yielded ops a.tmps) = true := by simp [Region.wanted, hg]
  rw [if_pos hw]
  exact wp_append_own_wide w s x t ho base e i z size bytes ht hi hz hsize hby hzs hsz v n xs hs hown ad m c news hx hl hnews h1 h63 hbytes hbase (fun v' w' h2 h3 _ => h v' w' h2 h3)

/-- What is below an own row stays when it grows. -/
theorem below_grown {w w1 w2 : World} {B : Nat} {row : Option Nat} (h : Below B w w1) (hB : B ≤ w1.heap.size) (hg : w1.grownBy w2 row) (hr : ∀ k, row = some k → B ≤ k) : Below B w w2 :=
  h.trans ⟨hg.os, hg.tape, hg.output, hg.size, fun k hk => hg.block k (by omega) (fun e => by have := hr k e.symm; omega)⟩

set_option maxHeartbeats 2000000 in
theorem asPairs_any (v : Value) (g : Pairs) (w : World) (h : Holds w v g) (hsz : g.length ≤ 20000) :
    Calls Try.prog 9 #[v] w fun e w' => ∃ u, e = .returned u ∧ Holds w' u g ∧ Below w.heap.size w w' := by
  obtain ⟨i0, hi, y0, y1, y2⟩ := info_parts Try.info44
  obtain ⟨a, c, rfl⟩ := h.form
  have H := Lib.hid h
  clear h
  go_enter Try.func9, Try.ntmps9
  go_wp2_with fail
  go_loopw [3, 4] (fun o i wr => ∃ k : Nat, k ≤ g.length ∧ i = .int .i64 k ∧ wr.ownsRow w.heap.size 44 2 o k (pairCells (g.take k)) ∧ Below w.heap.size w wr) (fun _ i _ => g.length - (intOf i).toNat)
  case atStart => exact ⟨0, Nat.zero_le _, rfl, World.ownsRow_nil _ _ _ _, Below.refl _ _⟩
  case round =>
    obtain ⟨k, hk, rfl, hO, hB⟩ := hrel
    have HO := Lib.hid hO; have HB := Lib.hid hB
    obtain ⟨oa, oc, rfl⟩ := ownsRow_form hO
    by_cases hlt : k < g.length
    · obtain ⟨b, off, rfl, hb, hc⟩ := H.out.open (by omega)
      have c0 := (hB.cell (p := ⟨b, off + k * 2, none⟩) hb).trans (hc k hlt).1
      have c1 := (hB.cell (p := ⟨b, off + k * 2 + 1, none⟩) hb).trans (hc k hlt).2
      have HT := Lib.hid (List.take_succ_eq_append_getElem hlt)
      obtain ⟨q, hq⟩ : ∃ q, q = g[k] := ⟨_, rfl⟩
      rw [← hq] at c0 c1 HT
      clear hc hB hq hO
      have hzz := HB.out.size
      go_wp2_with fail
      go_region_law (refine step_append_own rfl (.tmp 11) (.tmp 23) 25 rfl w.heap.size 44 i0 (.agg #[.string { data := #[] }, .string { data := #[] }]) 2 32 Try.underlying25 hi y0 y1 y2 rfl (by decide) (.slice oa k oc) k (pairCells (g.take k)) (by simp [Act.eval]) (HO.out.drew.alloc _) ⟨wr.heap.size, 0, none⟩ 1 1 [.string q.1, .string q.2] (by simp [Act.eval]) rfl ?c1 ?c2 ?c3 ?c4 ?c5 ?_; (case c1 => (intro j u h; rw [add_plain, Nat.zero_add, ← h]; exact (World.cell?_alloc_new wr _ _ j).trans (by simp))); (case c2 => (intro u hu; simp at hu; rcases hu with rfl | rfl <;> rfl)); (case c3 => (unfold maxLen; omega)); (case c4 => omega); (case c5 => (first | omega | (simp; omega))); intro v' w5 hO5 hg5)
      all_goals
        have hB5 : Below w.heap.size w w5 := below_grown (HB.out.alloc hzz _).drew (by simp; omega) hg5 (fun k hk => (HO.out.lt k hk).1)
        have HO5 : Hid (w5.ownsRow w.heap.size 44 2 v' (k + 1) (pairCells (g.take (k + 1)))) := by rw [HT.out, pairCells_snoc]; exact Lib.hid hO5
        have HB5 := Lib.hid hB5
        clear hO5 hg5 hB5
        go_wp2_with fail
        go_roundw
        case rel => exact ⟨k + 1, by omega, by go_num, HO5.out, HB5.out⟩
        case measure => simp [intOf]; omega
    · obtain rfl : k = g.length := by omega
      clear hB hO
      go_wp2_with fail
      go_ret
      rw [List.take_length] at HO
      exact ⟨_, rfl, own_holds HO.out, HB.out⟩
end Go.Proofs.Ytjckfdpkcaloiaa
