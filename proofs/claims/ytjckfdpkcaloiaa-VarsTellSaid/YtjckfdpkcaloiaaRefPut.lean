/- The document's own Put and Over. -/
import Derived.Test.YtjckfdpkcaloiaaRefs
namespace Go.Proofs.Ytjckfdpkcaloiaa
open Go.RowKit Go.Lib Go.WideShapes

theorem rput_some {g : Pairs} {k : Nat} (h : k < g.length) (n v : ByteArray) (d : Bool) : rput (g.drop k) n v d = (if !d && !lt g[k].1 n then [(n, v)] else []) ++ ((if g[k].1 = n then [] else [g[k]]) ++ rput (g.drop (k + 1)) n v (d || !lt g[k].1 n)) := by
  rw [List.drop_eq_getElem_cons h, rput]

set_option maxHeartbeats 4000000 in
theorem rput_any (u : Value) (g : Pairs) (n v : ByteArray) (w : World) (h : Holds w u g) (hsz : g.length ≤ 7000) :
    Calls Try.prog 16 #[u, .string n, .string v] w fun e w' => ∃ x, e = .returned x ∧ Holds w' x (rput g n v false) ∧ Below w.heap.size w w' := by
  obtain ⟨i0, hi, y0, y1, y2⟩ := info_parts Try.info44
  obtain ⟨a, c, rfl⟩ := h.form
  have H := Lib.hid h
  clear h
  go_enter Try.func16, Try.ntmps16
  go_wp2_with fail
  go_loopw [7, 8, 9] (fun o d i wr => ∃ (k : Nat) (r : Pairs) (D : Bool), k ≤ g.length ∧ r.length ≤ 2 * k ∧ i = .int .i64 k ∧ d = .bool D ∧ r ++ rput (g.drop k) n v D = rput g n v false ∧ wr.ownsRow w.heap.size 44 2 o r.length (pairCells r) ∧ Below w.heap.size w wr) (fun _ _ i _ => g.length - (intOf i).toNat)
  case atStart => exact ⟨0, [], false, Nat.zero_le _, Nat.le_refl _, rfl, rfl, rfl, World.ownsRow_nil _ _ _ _, Below.refl _ _⟩
  case round =>
    obtain ⟨k, r, D, hk, hrk, rfl, rfl, hr, hO, hB⟩ := hrel
    have HR := Lib.hid hr; have HO := Lib.hid hO; have HB := Lib.hid hB
    obtain ⟨oa, oc, rfl⟩ := ownsRow_form hO
    by_cases hlt : k < g.length
    · obtain ⟨b, off, rfl, hb, hc⟩ := H.out.open (by omega)
      have c0 := (hB.cell (p := ⟨b, off + k * 2, none⟩) hb).trans (hc k hlt).1
      have c1 := (hB.cell (p := ⟨b, off + k * 2 + 1, none⟩) hb).trans (hc k hlt).2
      have HT := Lib.hid (rput_some hlt n v D)
      obtain ⟨q, hq⟩ : ∃ q, q = g[k] := ⟨_, rfl⟩
      rw [← hq] at c0 c1 HT
      have hbw : b < wr.heap.size := by have := hB.size; omega
      have HC0 := Lib.hid (hc k hlt).1; have HC1 := Lib.hid (hc k hlt).2
      rw [← hq] at HC0 HC1
      clear hc hB hq hO hr
      have hzz := HB.out.size
      have hcase : (D = true ∧ q.1 = n) ∨ (D = true ∧ ¬ q.1 = n) ∨ (D = false ∧ lt q.1 n = true) ∨ (D = false ∧ lt q.1 n = false ∧ q.1 = n) ∨ (D = false ∧ lt q.1 n = false ∧ ¬ q.1 = n) := by
        cases D <;> cases lt q.1 n <;> by_cases e : q.1 = n <;> simp [e]
      rcases hcase with ⟨rfl, e⟩ | ⟨rfl, e⟩ | ⟨rfl, hl⟩ | ⟨rfl, hl, e⟩ | ⟨rfl, hl, e⟩
      · have E := Lib.hid e
        have he : (q.1.toList == n.toList) = true := by rw [eq_lists]; simpa using e
        clear e
        go_wp2_with fail
        go_roundw
        case rel => exact ⟨k + 1, r, true, by omega, by omega, by go_num, rfl, by rw [← HR.out, HT.out]; simp [E.out], HO.out, HB.out⟩
        case measure => simp [intOf]; omega
      · have E := Lib.hid e
        have he : (q.1.toList == n.toList) = false := by rw [eq_lists]; simpa using e
        clear e
        go_wp2_with (at_builtin; refine wpList_append_own_wide _ rfl (.tmp 40) (.tmp 45) 25 rfl w.heap.size 44 i0 (.agg #[.string { data := #[] }, .string { data := #[] }]) 2 32 Try.underlying25 hi y0 y1 y2 rfl (by decide) (.slice oa r.length oc) (r).length (pairCells (r)) rfl (HO.out.alloc _) ⟨wr.heap.size, 0, none⟩ 1 1 [.string q.1, .string q.2] rfl rfl ?a1 ?a2 ?a3 ?a4 ?a5 ?_)
        case a1 => intro j u h; rw [add_plain, Nat.zero_add, ← h]; exact (World.cell?_alloc_new wr _ _ j).trans (by simp)
        case a2 => intro u hu; simp at hu; rcases hu with rfl | rfl <;> rfl
        case a3 => unfold maxLen; omega
        case a4 => omega
        case a5 => simp; omega
        intro va wa hOa0 hga _
        have hBa := below_grown (HB.out.alloc (by omega) _) (by simp; omega) hga (fun k hk => (HO.out.lt k hk).1)
        have hOa : wa.ownsRow w.heap.size 44 2 va ((r) ++ [(q.1, q.2)]).length (pairCells ((r) ++ [(q.1, q.2)])) := by rw [pairCells_snoc, List.length_append]; exact hOa0
        have hza : w.heap.size ≤ wa.heap.size := hBa.size
        have HBa := Lib.hid hBa; have HOa := Lib.hid hOa
        clear hOa0 hga hBa hOa
        go_wp2_with fail
        go_roundw
        case rel => exact ⟨k + 1, r ++ [(q.1, q.2)], true, by omega, by simp; omega, by go_num, rfl, by rw [← HR.out, HT.out]; simp [E.out], HOa.out, HBa.out⟩
        case measure => simp [intOf]; omega
      · have E := Lib.hid (lt_ne hl); have HL := Lib.hid hl
        have hl1 : Op.bytesLess n.toList q.1.toList = false := lt_asymm hl
        have hl2 : (n.toList == q.1.toList) = false := by rw [eq_lists]; simpa using (lt_ne hl).symm
        have he : (q.1.toList == n.toList) = false := by rw [eq_lists]; simpa using lt_ne hl
        clear hl
        go_wp2_with (at_builtin; refine wpList_append_own_wide _ rfl (.tmp 40) (.tmp 45) 25 rfl w.heap.size 44 i0 (.agg #[.string { data := #[] }, .string { data := #[] }]) 2 32 Try.underlying25 hi y0 y1 y2 rfl (by decide) (.slice oa r.length oc) (r).length (pairCells (r)) rfl (HO.out.alloc _) ⟨wr.heap.size, 0, none⟩ 1 1 [.string q.1, .string q.2] rfl rfl ?b1 ?b2 ?b3 ?b4 ?b5 ?_)
        case b1 => intro j u h; rw [add_plain, Nat.zero_add, ← h]; exact (World.cell?_alloc_new wr _ _ j).trans (by simp)
        case b2 => intro u hu; simp at hu; rcases hu with rfl | rfl <;> rfl
        case b3 => unfold maxLen; omega
        case b4 => omega
        case b5 => simp; omega
        intro vb wb hOb0 hgb _
        have hBb := below_grown (HB.out.alloc (by omega) _) (by simp; omega) hgb (fun k hk => (HO.out.lt k hk).1)
        have hOb : wb.ownsRow w.heap.size 44 2 vb ((r) ++ [(q.1, q.2)]).length (pairCells ((r) ++ [(q.1, q.2)])) := by rw [pairCells_snoc, List.length_append]; exact hOb0
        have hzb : w.heap.size ≤ wb.heap.size := hBb.size
        have HBb := Lib.hid hBb; have HOb := Lib.hid hOb
        clear hOb0 hgb hBb hOb
        go_wp2_with fail
        go_roundw
        case rel => exact ⟨k + 1, r ++ [(q.1, q.2)], false, by omega, by simp; omega, by go_num, rfl, by rw [← HR.out, HT.out]; simp [E.out, HL.out], HOb.out, HBb.out⟩
        case measure => simp [intOf]; omega
      · have E := Lib.hid e; have HL := Lib.hid hl
        have hle : (Op.bytesLess n.toList q.1.toList || n.toList == q.1.toList) = true := by
          cases h1 : lt n q.1 with
          | true => rw [show Op.bytesLess n.toList q.1.toList = true from h1]; rfl
          | false => rw [lt_total h1 hl]; simp
        have he : (q.1.toList == n.toList) = true := by rw [eq_lists]; simpa using e
        clear e hl
        go_wp2_with (at_builtin; refine wpList_append_own_wide _ rfl (.tmp 27) (.tmp 31) 25 rfl w.heap.size 44 i0 (.agg #[.string { data := #[] }, .string { data := #[] }]) 2 32 Try.underlying25 hi y0 y1 y2 rfl (by decide) (.slice oa r.length oc) (r).length (pairCells (r)) rfl (HO.out.alloc _) ⟨wr.heap.size, 0, none⟩ 1 1 [.string n, .string v] rfl rfl ?c1 ?c2 ?c3 ?c4 ?c5 ?_)
        case c1 => intro j u h; rw [add_plain, Nat.zero_add, ← h]; exact (World.cell?_alloc_new wr _ _ j).trans (by simp)
        case c2 => intro u hu; simp at hu; rcases hu with rfl | rfl <;> rfl
        case c3 => unfold maxLen; omega
        case c4 => omega
        case c5 => simp; omega
        intro vc wc hOc0 hgc _
        have hBc := below_grown (HB.out.alloc (by omega) _) (by simp; omega) hgc (fun k hk => (HO.out.lt k hk).1)
        have hOc : wc.ownsRow w.heap.size 44 2 vc ((r) ++ [(n, v)]).length (pairCells ((r) ++ [(n, v)])) := by rw [pairCells_snoc, List.length_append]; exact hOc0
        have hzc : w.heap.size ≤ wc.heap.size := hBc.size
        have HBc := Lib.hid hBc; have HOc := Lib.hid hOc
        clear hOc0 hgc hBc hOc
        have c0c : wc.cell? ⟨b, off + k * 2, none⟩ = some (.string q.1) := (HBc.out.cell (p := ⟨b, off + k * 2, none⟩) hb).trans HC0.out
        have c1c : wc.cell? ⟨b, off + k * 2 + 1, none⟩ = some (.string q.2) := (HBc.out.cell (p := ⟨b, off + k * 2 + 1, none⟩) hb).trans HC1.out
        go_wp2_with fail
        go_roundw
        case rel => exact ⟨k + 1, r ++ [(n, v)], true, by omega, by simp; omega, by go_num, rfl, by rw [← HR.out, HT.out]; simp [E.out, lt_irrefl], HOc.out, HBc.out⟩
        case measure => simp [intOf]; omega
      · have E := Lib.hid e; have HL := Lib.hid hl
        have hle : (Op.bytesLess n.toList q.1.toList || n.toList == q.1.toList) = true := by
          cases h1 : lt n q.1 with
          | true => rw [show Op.bytesLess n.toList q.1.toList = true from h1]; rfl
          | false => rw [lt_total h1 hl]; simp
        have he : (q.1.toList == n.toList) = false := by rw [eq_lists]; simpa using e
        clear e hl
        go_wp2_with (at_builtin; refine wpList_append_own_wide _ rfl (.tmp 27) (.tmp 31) 25 rfl w.heap.size 44 i0 (.agg #[.string { data := #[] }, .string { data := #[] }]) 2 32 Try.underlying25 hi y0 y1 y2 rfl (by decide) (.slice oa r.length oc) (r).length (pairCells (r)) rfl (HO.out.alloc _) ⟨wr.heap.size, 0, none⟩ 1 1 [.string n, .string v] rfl rfl ?d1 ?d2 ?d3 ?d4 ?d5 ?_)
        case d1 => intro j u h; rw [add_plain, Nat.zero_add, ← h]; exact (World.cell?_alloc_new wr _ _ j).trans (by simp)
        case d2 => intro u hu; simp at hu; rcases hu with rfl | rfl <;> rfl
        case d3 => unfold maxLen; omega
        case d4 => omega
        case d5 => simp; omega
        intro vd wd hOd0 hgd _
        have hBd := below_grown (HB.out.alloc (by omega) _) (by simp; omega) hgd (fun k hk => (HO.out.lt k hk).1)
        have hOd : wd.ownsRow w.heap.size 44 2 vd ((r) ++ [(n, v)]).length (pairCells ((r) ++ [(n, v)])) := by rw [pairCells_snoc, List.length_append]; exact hOd0
        have hzd : w.heap.size ≤ wd.heap.size := hBd.size
        have HBd := Lib.hid hBd; have HOd := Lib.hid hOd
        clear hOd0 hgd hBd hOd
        have c0d : wd.cell? ⟨b, off + k * 2, none⟩ = some (.string q.1) := (HBd.out.cell (p := ⟨b, off + k * 2, none⟩) hb).trans HC0.out
        have c1d : wd.cell? ⟨b, off + k * 2 + 1, none⟩ = some (.string q.2) := (HBd.out.cell (p := ⟨b, off + k * 2 + 1, none⟩) hb).trans HC1.out
        obtain ⟨da, dc, rfl⟩ := ownsRow_form HOd.out
        obtain ⟨r2, hr2⟩ : ∃ r2, r2 = r ++ [(n, v)] := ⟨_, rfl⟩
        have hr3 : r2.length ≤ 2 * k + 1 := by rw [hr2]; simp; omega
        rw [← hr2] at HOd ⊢
        have HR2 := Lib.hid hr2
        clear hr2
        go_wp2_with (at_builtin; refine wpList_append_own_wide _ rfl (.tmp 40) (.tmp 45) 25 rfl w.heap.size 44 i0 (.agg #[.string { data := #[] }, .string { data := #[] }]) 2 32 Try.underlying25 hi y0 y1 y2 rfl (by decide) (.slice da r2.length dc) (r2).length (pairCells (r2)) rfl (HOd.out.alloc _) ⟨wd.heap.size, 0, none⟩ 1 1 [.string q.1, .string q.2] rfl rfl ?e1 ?e2 ?e3 ?e4 ?e5 ?_)
        case e1 => intro j u h; rw [add_plain, Nat.zero_add, ← h]; exact (World.cell?_alloc_new wd _ _ j).trans (by simp)
        case e2 => intro u hu; simp at hu; rcases hu with rfl | rfl <;> rfl
        case e3 => unfold maxLen; omega
        case e4 => omega
        case e5 => simp; omega
        intro ve we hOe0 hge _
        have hBe := below_grown (HBd.out.alloc (by omega) _) (by simp; omega) hge (fun k hk => (HOd.out.lt k hk).1)
        have hOe : we.ownsRow w.heap.size 44 2 ve ((r2) ++ [(q.1, q.2)]).length (pairCells ((r2) ++ [(q.1, q.2)])) := by rw [pairCells_snoc, List.length_append]; exact hOe0
        have hze : w.heap.size ≤ we.heap.size := hBe.size
        have HBe := Lib.hid hBe; have HOe := Lib.hid hOe
        clear hOe0 hge hBe hOe
        go_wp2_with fail
        go_roundw
        case rel => exact ⟨k + 1, r2 ++ [(q.1, q.2)], true, by omega, by simp; omega, by go_num, rfl, by rw [← HR.out, HT.out, HR2.out]; simp [E.out, HL.out], HOe.out, HBe.out⟩
        case measure => simp [intOf]; omega
    · obtain rfl : k = g.length := by omega
      have HR3 := HR.out
      rw [List.drop_length, rput] at HR3
      have HR4 := Lib.hid HR3
      clear hB hO hr HR3
      have hzz := HB.out.size
      cases D with
      | true =>
        go_wp2_with fail
        go_ret
        have := HR4.out
        rw [if_pos trivial, List.append_nil] at this
        rw [← this]
        exact ⟨_, rfl, own_holds HO.out, HB.out⟩
      | false =>
        go_wp2_with (at_builtin; refine wpList_append_own_wide _ rfl (.tmp 49) (.tmp 53) 25 rfl w.heap.size 44 i0 (.agg #[.string { data := #[] }, .string { data := #[] }]) 2 32 Try.underlying25 hi y0 y1 y2 rfl (by decide) (.slice oa r.length oc) (r).length (pairCells (r)) rfl (HO.out.alloc _) ⟨wr.heap.size, 0, none⟩ 1 1 [.string n, .string v] rfl rfl ?f1 ?f2 ?f3 ?f4 ?f5 ?_)
        case f1 => intro j u h; rw [add_plain, Nat.zero_add, ← h]; exact (World.cell?_alloc_new wr _ _ j).trans (by simp)
        case f2 => intro u hu; simp at hu; rcases hu with rfl | rfl <;> rfl
        case f3 => unfold maxLen; omega
        case f4 => omega
        case f5 => simp; omega
        intro vf wf hOf0 hgf _
        have hBf := below_grown (HB.out.alloc (by omega) _) (by simp; omega) hgf (fun k hk => (HO.out.lt k hk).1)
        have hOf : wf.ownsRow w.heap.size 44 2 vf ((r) ++ [(n, v)]).length (pairCells ((r) ++ [(n, v)])) := by rw [pairCells_snoc, List.length_append]; exact hOf0
        have hzf : w.heap.size ≤ wf.heap.size := hBf.size
        have HBf := Lib.hid hBf; have HOf := Lib.hid hOf
        clear hOf0 hgf hBf hOf
        go_wp2_with fail
        go_ret
        have := HR4.out
        rw [if_neg (by decide)] at this
        rw [← this]
        exact ⟨_, rfl, own_holds HOf.out, HBf.out⟩
end Go.Proofs.Ytjckfdpkcaloiaa
