/- slices.Delete of one pair, in a row of the call's own. -/
import Derived.Test.YtjckfdpkcaloiaaOwn
namespace Go.Proofs.Ytjckfdpkcaloiaa
open Go.RowKit Go.Lib Go.WideShapes

theorem Try.zero43 (w : World) : (zeroValue 43).run Try.prog w = .ok (.agg #[.string { data := #[] }, .string { data := #[] }]) w := by kernel_rfl

set_option maxHeartbeats 4000000 in
theorem delete_any (gb cap : Nat) (g : Pairs) (i base : Nat) (w : World) (h : w.ownsRow base 43 2 (.slice (some ⟨gb, 0, none⟩) g.length cap) g.length (pairCells g)) (hi : i < g.length) :
    Calls Try.prog 25 #[.slice (some ⟨gb, 0, none⟩) g.length cap, .int .i64 i, .int .i64 ((i : Int) + 1)] w fun e w' => ∃ u, e = .returned u ∧ Holds w' u (g.take i ++ g.drop (i + 1)) ∧ w.grownBy w' (some gb) := by
  obtain ⟨i0, hi0, y0, y1, y2⟩ := info_parts Try.info43
  obtain ⟨hnc, hcm, _, hgw, hsh, hfz, hsp⟩ := own_room h
  have hcm' : cap ≤ 9223372036854775807 := by unfold maxLen at hcm; omega
  obtain ⟨n, hn⟩ : ∃ n, n = g.length := ⟨_, rfl⟩
  obtain ⟨news, hnews⟩ : ∃ news, news = pairCells (g.drop (i + 1)) := ⟨_, rfl⟩
  have hlen : news.length = (n - (i + 1)) * 2 := by rw [hnews, pairCells_length, List.length_drop, hn]
  have hH : Holds w (.slice (some ⟨gb, 0, none⟩) g.length cap) g := own_holds h
  obtain ⟨A, hA, hsrc⟩ : ∃ A : Addr, (if cap = i + 1 then some (⟨gb, 0, none⟩ : Addr) else some ⟨gb, (i + 1) * 2, none⟩) = some A ∧ Hid (∀ t u, news[t]? = some u → w.drew.cell? (A.add t) = some u) := by
    by_cases hc : cap = i + 1
    · refine ⟨⟨gb, 0, none⟩, by simp [hc], fun t u hu => ?_⟩
      have h0 : news.length = 0 := by rw [hlen]; omega
      rw [List.length_eq_zero_iff.1 h0] at hu
      simp at hu
    · refine ⟨⟨gb, (i + 1) * 2, none⟩, by simp [hc], fun t u hu => ?_⟩
      rw [add_plain]
      have h2 : (pairCells g)[(i + 1) * 2 + t]? = some u := by
        have e : pairCells g = pairCells (g.take (i + 1)) ++ news := by rw [hnews, ← pairCells_append, List.take_append_drop]
        rw [e, List.getElem?_append_right (by rw [pairCells_length, List.length_take]; omega), pairCells_length, List.length_take, Nat.min_eq_left (by omega), Nat.add_sub_cancel_left]
        exact hu
      have := hH.cells _ _ h2
      rw [Nat.zero_add] at this
      exact this
  have s1 : Hid (∀ u ∈ news, u.oneCell' = true) := by rw [hnews]; exact one_cells _
  have s3 : Hid (∀ t, t < news.length → (w.drew.cell? ⟨gb, 0 + i * 2 + t, none⟩).isSome = true ∧ w.drew.frozen? ⟨gb, 0 + i * 2 + t, none⟩ = false) := by
    intro t ht
    rw [hlen] at ht
    exact ⟨hsp _ (by omega), hfz _⟩
  obtain ⟨W1, hW1⟩ : ∃ W1, W1 = w.drew.setCells gb (0 + i * 2) news := ⟨_, rfl⟩
  have hd : w.drew.ownsRow base 43 2 (.slice (some ⟨gb, 0, none⟩) g.length cap) g.length (pairCells g) := h.drew
  obtain ⟨hO1, hG1⟩ := own_stored hd news (0 + i * 2)
  rw [← hW1] at hO1 hG1
  have hset : setL (pairCells g) (0 + i * 2) news = pairCells (g.take i ++ g.drop (i + 1)) ++ (pairCells g).drop (i * 2 + (n - (i + 1)) * 2) := by
    rw [setL_eq _ _ _ (by rw [hlen, pairCells_length, ← hn]; omega), Nat.zero_add, hlen, pairCells_append, ← hnews, List.append_assoc]
    congr 1
    have e : pairCells g = pairCells (g.take i) ++ pairCells (g.drop i) := by rw [← pairCells_append, List.take_append_drop]
    rw [e, List.take_left' (by rw [pairCells_length, List.length_take]; omega)]
  have hl1 : (g.take i ++ g.drop (i + 1)).length = n - 1 := by rw [List.length_append, List.length_take, List.length_drop]; omega
  have hcut := own_cut hO1 (m := n - 1) (by omega)
  rw [hset, List.take_left' (by rw [pairCells_length, hl1])] at hcut
  obtain ⟨_, _, _, hgw1, _, hfz1, hsp1⟩ := own_room hcut
  obtain ⟨hO2, hG2⟩ := own_stored hcut [.string { data := #[] }, .string { data := #[] }] ((n - 1) * 2)
  rw [setL_out _ _ _ (by rw [pairCells_length, hl1]; omega)] at hO2
  have hfin : Holds (W1.setCells gb ((n - 1) * 2) [.string { data := #[] }, .string { data := #[] }]) (.slice (some ⟨gb, 0, none⟩) (n - 1) cap) (g.take i ++ g.drop (i + 1)) := by
    have := own_holds (base := base) (e := 43) (v := .slice (some ⟨gb, 0, none⟩) (n - 1) cap) (g := g.take i ++ g.drop (i + 1)) (by rw [hl1]; exact hO2)
    exact this
  have hgr : w.grownBy (W1.setCells gb ((n - 1) * 2) [.string { data := #[] }, .string { data := #[] }]) (some gb) :=
    ⟨hG2.os.trans hG1.os, hG2.tape.trans hG1.tape, hG2.output.trans hG1.output, Nat.le_trans hG1.size hG2.size, fun k hk hne => (hG2.block k (Nat.lt_of_lt_of_le hk hG1.size) hne).trans (hG1.block k hk hne)⟩
  have hcl : ∀ ty, (Builtin.clear_ #[22] ty #[.slice (some ⟨gb, (i + (n - (i + 1))) * 2, none⟩) (n - (i + (n - (i + 1)))) (cap - (i + (n - (i + 1))))]).run Try.prog W1 = .ok (.tuple #[]) (W1.setCells gb ((i + (n - (i + 1))) * 2) [.string { data := #[] }, .string { data := #[] }]) := fun ty => by
    rw [show i + (n - (i + 1)) = n - 1 by omega, show n - (n - 1) = 1 by omega]
    exact run_clear_cells W1 _ _ ty _ Try.underlying22 Try.zero43 gb ((n - 1) * 2) 1 _ (by decide) _ (by kernel_rfl) (by intro v hv; simp at hv; subst hv; rfl) (fun j hj => hsp1 _ (by simp at hj; omega)) (fun j _ => hfz1 _)
  rw [show n - 1 = i + (n - (i + 1)) by omega] at hfin hgr
  rw [← hn]
  have HF := Lib.hid hfin; have HGR := Lib.hid hgr; have HW := Lib.hid hW1; have HLEN := Lib.hid hlen; have HN := Lib.hid hn
  have hin : i < n := by omega
  have hnc' : n ≤ cap := by omega
  clear hfin hgr hW1 hnews hlen hH hsh hfz hsp hd hO1 hG1 hset hl1 hcut hgw1 hfz1 hsp1 hO2 hG2 h hn hi hnc hcm hgw
  have q1 : (0 : Int) ≤ (i : Int) + 1 := by omega
  have q2 : ((i : Int) + 1).toNat = i + 1 := by omega
  have q3 : (i : Int) + 1 ≤ n := by omega
  go_enter Try.func25, Try.ntmps25
  go_wp2_with fail
  have hic : i ≤ cap := by omega
  have hjc : i + 1 ≤ cap := by omega
  go_region_law (refine step_append_room rfl (.tmp 22) (.tmp 25) 22 rfl 43 i0 2 Try.underlying22 hi0 y1 gb 0 i cap (by simp [Act.eval, Act.put]) A (n - (i + 1)) (cap - (i + 1)) news (by simp [Act.eval, Act.put]) HLEN.out hsrc.out s1.out (by omega) s3.out ?_; rw [← HW.out])
  all_goals
    go_wp2_with fail
    go_ret
    exact ⟨_, rfl, HF.out, HGR.out⟩
end Go.Proofs.Ytjckfdpkcaloiaa
