/- slices.Insert of one pair ahead of others, where there is no room. -/
import Derived.Test.YtjckfdpkcaloiaaInsertIn
namespace Go.Proofs.Ytjckfdpkcaloiaa
open Go.RowKit Go.Lib Go.WideShapes

theorem zero_cells (n : Nat) : (Builtin.zeroCells (Value.agg #[.string { data := #[] }, .string { data := #[] }]).cells n).size = n * 2 := by
  simp [Builtin.zeroCells, Value.cells]

set_option maxHeartbeats 4000000 in
theorem insert_grow (gb cap : Nat) (g : Pairs) (x y : ByteArray) (i vb base : Nat) (w : World) (h : w.ownsRow base 43 2 (.slice (some ⟨gb, 0, none⟩) g.length cap) g.length (pairCells g)) (hb : Box w vb x y) (hi : i < g.length) (hroom : cap < g.length + 1) (hsz : g.length ≤ 7000) (hbase : base ≤ w.heap.size) :
    Calls Try.prog 24 #[.slice (some ⟨gb, 0, none⟩) g.length cap, .int .i64 i, .slice (some ⟨vb, 0, none⟩) 1 1] w fun e w' => ∃ u, e = .returned u ∧ Holds w' u (g.take i ++ (x, y) :: g.drop i) ∧ Below base w w' := by
  obtain ⟨i0, hi0, y0, y1, y2⟩ := info_parts Try.info43
  obtain ⟨hnc, hcm, hbg, hgw, hsh, hfz, hsp⟩ := own_room h
  have hcm' : cap ≤ 9223372036854775807 := by unfold maxLen at hcm; omega
  have hH : Holds w (.slice (some ⟨gb, 0, none⟩) g.length cap) g := own_holds h
  have hvw := hb.lt
  obtain ⟨n, hn⟩ : ∃ n, n = g.length := ⟨_, rfl⟩
  have hdl : (pairCells (g.drop i)).length = (n - i) * 2 := by rw [pairCells_length, List.length_drop, hn]
  have htl : (pairCells (g.take i)).length = i * 2 := by rw [pairCells_length, List.length_take]; omega
  have hinfo : (Try.prog.info? 43).map (·.size) = some 2 := by kernel_rfl
  have hik : i + (n + 1 - i) = n + 1 := by omega
  have hkk : (n : Int) + 1 - i = ((n + 1 - i : Nat) : Int) := by omega
  have hold : (Builtin.firstCells i0.size i (.slice (some ⟨gb, 0, none⟩) i cap)).run Try.prog w.drew = .ok (pairCells (g.take i)).toArray w.drew := by
    rw [y1]
    refine run_firstCells_some w.drew 2 i ⟨gb, 0, none⟩ i cap (pairCells (g.take i)) htl (fun j v hj => ?_)
    rw [add_plain]
    refine hH.cells j v ?_
    have hj2 : j < i * 2 := by rw [← htl]; exact (List.getElem?_eq_some_iff.1 hj).1
    rw [← take_two, List.getElem?_take_of_lt hj2] at hj
    exact hj
  obtain ⟨G, hG⟩ : ∃ G, G = grownCap w (n + 1) cap 43 := ⟨_, rfl⟩
  obtain ⟨ROW, hROW⟩ : ∃ ROW : Array Value, ROW = (pairCells (g.take i)).toArray ++ Builtin.zeroCells (Value.agg #[.string { data := #[] }, .string { data := #[] }]).cells (n + 1 - i) ++ Builtin.zeroCells (Value.agg #[.string { data := #[] }, .string { data := #[] }]).cells (G - (n + 1)) := ⟨_, rfl⟩
  have hrz : ∀ ty, (Builtin.append_ #[22, 3] ty #[.slice (some ⟨gb, 0, none⟩) i cap, .int .i64 ((n : Int) + 1 - (i : Int))]).run Try.prog w =
      .ok (.slice (some ⟨w.heap.size, 0, none⟩) (n + 1) G) (w.drew.alloc (.cells ROW 43)) := fun ty => by
    have hh := Lib.run_append_grow_zeros w 22 3 ty 43 i0 _ .i64 .i64 Try.underlying22 Try.underlying3 hi0 y0 (some ⟨gb, 0, none⟩) i cap (pairCells (g.take i)) hold (n + 1 - i) (by omega) (by omega) (by omega) (by omega) (by rw [y2]; omega) (by rw [y2, hik]; exact growslice_fits (by omega) (by omega))
    rw [hik, ← hG, ← hROW] at hh
    rw [hkk]
    exact hh
  have hGn : n + 1 ≤ G := by rw [hG]; exact grownCap_ge w _ _ _
  have hG63 : G ≤ maxLen := by rw [hG]; exact grownCap_le_maxLen w (n + 1) cap _ (by unfold maxLen; omega)
  have hRs : ROW.size = G * 2 := by
    rw [hROW, Array.size_append, Array.size_append, zero_cells, zero_cells, List.size_toArray, htl]; omega
  have hNew : (w.drew.alloc (.cells ROW 43)).ownsRow base 43 2 (.slice (some ⟨w.heap.size, 0, none⟩) (n + 1) G) (n + 1) (ROW.toList.take ((n + 1) * 2)) :=
    ⟨by rw [List.length_take, Array.length_toList]; omega, .inr ⟨_, _, ROW, rfl, hbase, heap_alloc_new w.drew _, hGn, hG63, hRs, rfl⟩⟩
  obtain ⟨ys, hys⟩ : ∃ ys, ys = ROW.toList.take ((n + 1) * 2) := ⟨_, rfl⟩
  rw [← hys] at hNew
  have hyl : ys.length = (g.length + 1) * 2 := by rw [hys, List.length_take, Array.length_toList]; omega
  have hyt : ys.take (i * 2) = pairCells (g.take i) := by
    rw [hys, List.take_take, Nat.min_eq_left (by omega), hROW]
    simp only [Array.toList_append, List.append_assoc]
    rw [List.take_left' htl]
  obtain ⟨NB, hNB⟩ : ∃ NB, NB = w.heap.size := ⟨_, rfl⟩
  have hNew2 : ((w.alloc (.cells ROW 43)).drew).ownsRow base 43 2 (.slice (some ⟨NB, 0, none⟩) (n + 1) G) (n + 1) ys := by rw [hNB]; exact hNew
  obtain ⟨W0, hW0⟩ : ∃ W0, W0 = w.drew.alloc (.cells ROW 43) := ⟨_, rfl⟩
  rw [← hNB] at hrz hNew
  rw [← hW0] at hrz hNew
  have hB0 : Below base w W0 := by rw [hW0]; exact (Below.refl base w).drew.alloc hbase _
  have hvc : ∀ j u, [Value.string x, Value.string y][j]? = some u → W0.cell? ((⟨vb, 0, none⟩ : Addr).add j) = some u := fun j u hj => by
    have := hb.cells j u hj
    rw [add_plain] at this ⊢
    rw [hW0, World.cell?_alloc_past (w := w.drew) _ vb _ hvw]; exact this
  have hgc : ∀ j u, (pairCells (g.drop i))[j]? = some u → W0.cell? ⟨gb, i * 2 + j, none⟩ = some u := fun j u hj => by
    have := hH.cells (i * 2 + j) u (by rw [← List.getElem?_drop, drop_two]; exact hj)
    rw [Nat.zero_add] at this
    rw [hW0, World.cell?_alloc_past (w := w.drew) _ gb _ hgw]; exact this
  obtain ⟨_, _, _, _, _, hfz0, hsp0⟩ := own_room hNew
  have hcp1 : ∀ ty dc, (Builtin.copy_ #[22, 22] ty #[.slice (some ⟨NB, i * 2, none⟩) (n + 1 - i) dc, .slice (some ⟨vb, 0, none⟩) 1 1]).run Try.prog W0 = .ok (goInt (Nat.min 1 (n + 1 - i))) (W0.setCells NB (i * 2) [.string x, .string y]) := fun ty dc =>
    run_copy_wide W0 _ _ ty 43 2 NB (i * 2) (n + 1 - i) dc ⟨vb, 0, none⟩ 1 1 [.string x, .string y] Try.underlying22 hinfo (by rw [show Nat.min 1 (n + 1 - i) = 1 by simp only [Nat.min_def]; split <;> omega]; rfl)
      hvc (fun j hj => hsp0 _ (by simp at hj; omega)) (fun j _ => hfz0 _) (by intro u hu; simp at hu; rcases hu with rfl | rfl <;> rfl)
  obtain ⟨hO1, hG1⟩ := own_stored hNew [.string x, .string y] (i * 2)
  obtain ⟨W1, hW1⟩ : ∃ W1, W1 = W0.setCells NB (i * 2) [.string x, .string y] := ⟨_, rfl⟩
  rw [← hW1] at hO1 hG1 hcp1
  obtain ⟨_, _, _, _, _, hfz1, hsp1⟩ := own_room hO1
  have hcp2 : ∀ ty dc sc, (Builtin.copy_ #[22, 22] ty #[.slice (some ⟨NB, (i + 1) * 2, none⟩) (n + 1 - (i + 1)) dc, .slice (some ⟨gb, i * 2, none⟩) (n - i) sc]).run Try.prog W1.drew = .ok (goInt (Nat.min (n - i) (n + 1 - (i + 1)))) (W1.drew.setCells NB ((i + 1) * 2) (pairCells (g.drop i))) := fun ty dc sc =>
    run_copy_wide W1.drew _ _ ty 43 2 NB ((i + 1) * 2) (n + 1 - (i + 1)) dc ⟨gb, i * 2, none⟩ (n - i) sc (pairCells (g.drop i)) Try.underlying22 hinfo (by rw [hdl]; simp only [Nat.min_def]; split <;> omega)
      (fun j v hj => by
        rw [add_plain]
        show W1.cell? _ = _
        rw [hW1, World.cell?_setCells_out NB _ _ _ _ (fun h _ => by have h' : gb = NB := h; omega)]
        exact hgc j v hj)
      (fun j hj => hsp1 _ (by omega)) (fun j _ => hfz1 _) (one_cells _)
  have hO1d : W1.drew.ownsRow base 43 2 (.slice (some ⟨NB, 0, none⟩) (n + 1) G) (n + 1) (setL ys (i * 2) [.string x, .string y]) := hO1.drew
  obtain ⟨hO2, hG2⟩ := own_stored hO1d (pairCells (g.drop i)) ((i + 1) * 2)
  rw [ins_two x y (by omega) hyl hyt] at hO2
  have hfin : Holds (W1.drew.setCells NB ((i + 1) * 2) (pairCells (g.drop i))) (.slice (some ⟨NB, 0, none⟩) (n + 1) G) (g.take i ++ (x, y) :: g.drop i) := by
    have hl : (g.take i ++ (x, y) :: g.drop i).length = g.length + 1 := by rw [List.length_append, List.length_take, List.length_cons, List.length_drop]; omega
    have := own_holds (base := base) (e := 43) (v := .slice (some ⟨NB, 0, none⟩) (n + 1) G) (g := g.take i ++ (x, y) :: g.drop i) (by rw [hl, ← hn]; exact hO2)
    exact this
  have hbel : Below base w (W1.drew.setCells NB ((i + 1) * 2) (pairCells (g.drop i))) := by
    have hz0 := hB0.size
    have hz1 := hG1.size
    exact below_grown (below_grown hB0 (by omega) hG1 (fun k hk => by simp at hk; omega)).drew (show base ≤ W1.drew.heap.size by show base ≤ W1.heap.size; omega) hG2 (fun k hk => by simp at hk; omega)
  rw [← hn]
  have HF := Lib.hid hfin; have HBL := Lib.hid hbel; have HRZ := Lib.hid hrz; have HC2 := Lib.hid hcp2
  have hin : i < n := by omega
  have hr' : (cap : Int) < (n : Int) + 1 := by omega
  have hG63' : G ≤ 9223372036854775807 := by unfold maxLen at hG63; omega
  have hn7 : n ≤ 7000 := by omega
  have hncap : n ≤ cap := by omega
  clear hfin hbel hrz hcp2 hO2 hG2 hO1 hG1 hO1d hyt hyl hfz1 hsp1 hdl hH hb h hsh hfz hsp hn hi hroom hcm hgw hW0 hW1 hB0 hvc hgc hfz0 hsp0 hNew hNew2 hys hRs hROW hG hold htl hik hkk hnc hNB hG63 hsz hvw y0 y1 y2 hi0 hinfo
  have hw1 : IntKind.i64.wrap ((i : Int) + 1) = (i : Int) + 1 := by rw [IntKind.wrap_i64]; omega
  have hb1 : (0 : Int) ≤ (i : Int) + 1 := by omega
  have htn : ((i : Int) + 1).toNat = i + 1 := by omega
  have hz2 : ¬ ((i : Int) = (n : Int)) := by omega
  have hGi : ¬ (G = i) := by omega
  have hGim : ¬ (G = i + 1) := by omega
  have hci : ¬ (cap = i) := by omega
  have hb3 : (i : Int) ≤ (n : Int) := by omega
  have hb5 : (i : Int) + 1 ≤ (n : Int) + 1 := by omega
  go_enter Try.func24, Try.ntmps24
  go_wp2_with (at_builtin; refine Lib.wpList_append_run _ rfl (.tmp 34) (.tmp 39) _ _ rfl _ _ rfl rfl _ _ (HRZ.out _) ?_)
  clear hcp1
  go_region_law (refine step_copy_run rfl (.tmp 50) (.tmp 53) 22 22 rfl (.slice (some ⟨NB, (i + 1) * 2, none⟩) (n + 1 - (i + 1)) (G - (i + 1))) (.slice (some ⟨gb, i * 2, none⟩) (n - i) (cap - i)) (by simp [Act.eval, Act.put]) (by simp [Act.eval, Act.put]) (HC2.out _ _ _) ?_)
  all_goals
    go_wp2_with fail
    go_ret
    exact ⟨_, rfl, HF.out, HBL.out⟩
end Go.Proofs.Ytjckfdpkcaloiaa
