/- The document's own Put, Drop and Over; Clone. -/
import Derived.Test.YtjckfdpkcaloiaaPairs
import Derived.StillTailTactics
import Derived.WalkSpells
namespace Go.Proofs.Ytjckfdpkcaloiaa
open Go.RowKit Go.Lib Go.WideShapes

theorem Holds.cellsAdd {w : World} {ad : Addr} {c : Nat} {g : Pairs} (h : Holds w (.slice (some ad) g.length c) g) : ∀ j u, (pairCells g)[j]? = some u → w.cell? (ad.add j) = some u := by
  intro j u hu
  have hj := cells_none hu
  obtain ⟨b, off, ha, _, _⟩ := h.open (by omega)
  simp only [Option.some.injEq] at ha
  subst ha
  rw [add_plain]
  exact h.cells j u hu

set_option maxHeartbeats 2000000 in
theorem clone_any (v : Value) (g : Pairs) (w : World) (h : Holds w v g) (hsz : g.length ≤ 7000) :
    Calls Try.prog 23 #[v] w fun e w' => ∃ u, e = .returned u ∧ w'.ownsRow w.heap.size 43 2 u g.length (pairCells g) ∧ Below w.heap.size w w' := by
  obtain ⟨i0, hi, y0, y1, y2⟩ := info_parts Try.info43
  have q22 : ∀ (w : World) (a : Option Addr) (n c n' c' : Nat), (binOp .eql 22 (.slice a n c) (.slice none n' c')).run Try.prog w = .ok (.bool a.isNone) w := fun w a n c n' c' => Lib.run_eql_slice_nil w _ _ a n c n' c' Try.underlying22
  obtain ⟨a, c, rfl⟩ := h.form
  have H := Lib.hid h
  cases a with
  | none =>
    have hg : g = [] := by
      cases g with
      | nil => rfl
      | cons p g => obtain ⟨b, off, h0, _⟩ := h.open (by simp); cases h0
    subst hg
    clear h
    go_enter Try.func23, Try.ntmps23
    go_wp2
    go_ret
    exact ⟨_, rfl, World.ownsRow_nil _ _ _ _, Below.refl _ _⟩
  | some ad =>
    clear h
    go_enter Try.func23, Try.ntmps23
    go_wp2_with (at_builtin; refine wpList_append_own_wide _ rfl _ _ 22 rfl w.heap.size 43 i0 (.agg #[.string { data := #[] }, .string { data := #[] }]) 2 32 Try.underlying22 hi y0 y1 y2 rfl (by decide) _ _ _ rfl (World.ownsRow_made w #[] 0 (Nat.le_refl _) (Nat.zero_le _) (by simp)) ad g.length c (pairCells g) rfl ?c1 ?c2 ?c3 ?c4 ?c5 ?c6 ?_)
    case c1 => exact pairCells_length g
    case c2 => intro j u hj; exact Lib.cell?_alloc_some _ (H.out.cellsAdd j u hj)
    case c3 => exact one_cells g
    case c4 => unfold maxLen; omega
    case c5 => omega
    case c6 => simp
    intro v' w1 hown hgrow _
    go_wp2
    go_ret
    exact ⟨v', rfl, by simpa using hown, below_grown ((Below.refl _ w).alloc (Nat.le_refl _) _) (by simp) hgrow (by intro k hk; simp [Value.ownBlock] at hk; omega)⟩

set_option maxHeartbeats 2000000 in
theorem rdrop_any (v : Value) (g : Pairs) (n : ByteArray) (w : World) (h : Holds w v g) (hsz : g.length ≤ 7000) :
    Calls Try.prog 18 #[v, .string n] w fun e w' => ∃ u, e = .returned u ∧ Holds w' u (drop g n) ∧ Below w.heap.size w w' := by
  obtain ⟨i0, hi, y0, y1, y2⟩ := info_parts Try.info44
  obtain ⟨a, c, rfl⟩ := h.form
  have H := Lib.hid h
  clear h
  go_enter Try.func18, Try.ntmps18
  go_wp2_with fail
  go_loopw [5, 6] (fun o i wr => ∃ (k : Nat) (r : Pairs), k ≤ g.length ∧ r.length ≤ k ∧ i = .int .i64 k ∧ r = drop (g.take k) n ∧ wr.ownsRow w.heap.size 44 2 o r.length (pairCells r) ∧ Below w.heap.size w wr) (fun _ i _ => g.length - (intOf i).toNat)
  case atStart => exact ⟨0, [], Nat.zero_le _, Nat.le_refl _, rfl, rfl, World.ownsRow_nil _ _ _ _, Below.refl _ _⟩
  case round =>
    obtain ⟨k, r, hk, hrk, rfl, hr, hO, hB⟩ := hrel
    have HR := Lib.hid hr; have HO := Lib.hid hO; have HB := Lib.hid hB
    obtain ⟨oa, oc, rfl⟩ := ownsRow_form hO
    by_cases hlt : k < g.length
    · obtain ⟨b, off, rfl, hb, hc⟩ := H.out.open (by omega)
      have c0 := (hB.cell (p := ⟨b, off + k * 2, none⟩) hb).trans (hc k hlt).1
      have c1 := (hB.cell (p := ⟨b, off + k * 2 + 1, none⟩) hb).trans (hc k hlt).2
      have HT := Lib.hid (List.take_succ_eq_append_getElem hlt)
      obtain ⟨q, hq⟩ : ∃ q, q = g[k] := ⟨_, rfl⟩
      rw [← hq] at c0 c1 HT
      clear hc hB hq hO hr
      have hzz := HB.out.size
      by_cases e : q.1 = n
      · have he : (q.1.toList == n.toList) = true := by rw [eq_lists]; simpa using e
        have E := Lib.hid e
        clear e
        go_wp2_with fail
        go_roundw
        case rel => exact ⟨k + 1, r, by omega, by omega, by go_num, by rw [HR.out, HT.out, drop, drop, List.filter_append]; simp [E.out], HO.out, HB.out⟩
        case measure => simp [intOf]; omega
      · have he : (q.1.toList == n.toList) = false := by rw [eq_lists]; simpa using e
        have E := Lib.hid e
        clear e
        go_wp2_with (at_builtin; refine wpList_append_own_wide _ rfl (.tmp 20) (.tmp 25) 25 rfl w.heap.size 44 i0 (.agg #[.string { data := #[] }, .string { data := #[] }]) 2 32 Try.underlying25 hi y0 y1 y2 rfl (by decide) (.slice oa r.length oc) r.length (pairCells r) rfl (HO.out.alloc _) ⟨wr.heap.size, 0, none⟩ 1 1 [.string q.1, .string q.2] rfl rfl ?c1 ?c2 ?c3 ?c4 ?c5 ?_)
        case c1 => intro j u h; rw [add_plain, Nat.zero_add, ← h]; exact (World.cell?_alloc_new wr _ _ j).trans (by simp)
        case c2 => intro u hu; simp at hu; rcases hu with rfl | rfl <;> rfl
        case c3 => unfold maxLen; omega
        case c4 => omega
        case c5 => simp; omega
        intro v' w5 hO5 hg5 _
        have HB5 := Lib.hid (below_grown (HB.out.alloc hzz _) (by simp; omega) hg5 (fun k hk => (HO.out.lt k hk).1))
        have HO5 : Hid (w5.ownsRow w.heap.size 44 2 v' (r ++ [q]).length (pairCells (r ++ [q]))) := by rw [pairCells_snoc, List.length_append]; exact Lib.hid hO5
        clear hO5 hg5
        go_wp2_with fail
        go_roundw
        case rel => exact ⟨k + 1, r ++ [q], by omega, by rw [List.length_append]; simp; omega, by go_num, by rw [HR.out, HT.out, drop, drop, List.filter_append]; simp [E.out], HO5.out, HB5.out⟩
        case measure => simp [intOf]; omega
    · obtain rfl : k = g.length := by omega
      clear hB hO hr
      go_wp2_with fail
      go_ret
      have hr := HR.out
      rw [List.take_length] at hr
      rw [← hr]
      exact ⟨_, rfl, own_holds HO.out, HB.out⟩
end Go.Proofs.Ytjckfdpkcaloiaa
