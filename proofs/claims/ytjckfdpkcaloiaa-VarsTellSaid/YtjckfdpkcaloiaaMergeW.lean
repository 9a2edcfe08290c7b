/- vars.Over. -/
import Derived.Test.YtjckfdpkcaloiaaMerge
namespace Go.Proofs.Ytjckfdpkcaloiaa
open Go.RowKit Go.Lib Go.WideShapes

def sliceLen : Value → Nat
  | .slice _ n _ => n
  | _ => 0

theorem Holds.tail {w : World} {b off c : Nat} {p : ByteArray × ByteArray} {g : Pairs} (h : Holds w (.slice (some ⟨b, off, none⟩) (g.length + 1) c) (p :: g)) : Holds w (.slice (some ⟨b, off + 2, none⟩) g.length (c - 1)) g := by
  obtain ⟨a', c', hv, hlc, hm, hn, h⟩ := h
  simp only [Value.slice.injEq] at hv
  obtain ⟨rfl, _, rfl⟩ := hv
  rw [List.length_cons] at hlc
  refine ⟨_, c - 1, rfl, by omega, by omega, by simp, ?_⟩
  rcases h with h | ⟨b', off', ha, hb, hcell⟩
  · cases h
  simp only [Option.some.injEq, Addr.mk.injEq, and_true] at ha
  obtain ⟨rfl, rfl⟩ := ha
  refine .inr ⟨_, _, rfl, hb, fun i hi => ?_⟩
  have := hcell (i + 1) (by simpa using hi)
  rw [show off + (i + 1) * 2 = off + 2 + i * 2 by omega] at this
  exact this

/-- Cut at its end, a row of one keeps its address. -/
theorem Holds.tail_one {w : World} {a : Option Addr} {p : ByteArray × ByteArray} {g : Pairs} (h : Holds w (.slice a (g.length + 1) 1) (p :: g)) : g = [] ∧ Holds w (.slice a 0 0) [] := by
  obtain ⟨a', c', hv, hlc, hm, hn, h⟩ := h
  simp only [Value.slice.injEq] at hv
  obtain ⟨rfl, _, rfl⟩ := hv
  rw [List.length_cons] at hlc
  exact ⟨List.eq_nil_of_length_eq_zero (by omega), ⟨a, 0, rfl, Nat.le_refl _, by decide, fun _ => rfl, .inl rfl⟩⟩

/-- What a slice without its first pair is. -/
def tailV (b off n c : Nat) : Value := if c = 1 then .slice (some ⟨b, off, none⟩) 0 0 else .slice (some ⟨b, off + 2, none⟩) n (c - 1)

set_option maxHeartbeats 8000000 in
theorem over_any (v u : Value) (g h : Pairs) (w : World) (hg : Holds w v g) (hh : Holds w u h) (hsum : g.length + h.length ≤ 20000) :
    Calls Try.prog 19 #[v, u] w fun e w' => ∃ x, e = .returned x ∧ Holds w' x (merge g h) ∧ Below w.heap.size w w' := by
  obtain ⟨i0, hi, y0, y1, y2⟩ := info_parts Try.info43
  have HG := Lib.hid hg; have HH := Lib.hid hh
  clear hg hh
  go_enter Try.func19, Try.ntmps19
  go_wp2_with fail
  go_loopw [0, 1, 5] (fun va vb o wr => ∃ ga gb r : Pairs, Holds w va ga ∧ Holds w vb gb ∧ r ++ merge ga gb = merge g h ∧ r.length + ga.length + gb.length ≤ 20000 ∧ wr.ownsRow w.heap.size 43 2 o r.length (pairCells r) ∧ Below w.heap.size w wr) (fun va vb _ _ => sliceLen va + sliceLen vb)
  case atStart => exact ⟨g, h, [], HG.out, HH.out, rfl, by simpa using hsum, World.ownsRow_nil _ _ _ _, Below.refl _ _⟩
  case round =>
    obtain ⟨ga, gb, r, hA, hBB, hR, hsm, hO, hB⟩ := hrel
    have HA := Lib.hid hA; have HBB := Lib.hid hBB; have HR := Lib.hid hR; have HO := Lib.hid hO; have HB := Lib.hid hB
    obtain ⟨a, c, rfl⟩ := hA.form
    obtain ⟨a2, c2, rfl⟩ := hBB.form
    obtain ⟨oa, oc, rfl⟩ := ownsRow_form hO
    have hzz := hB.size
    have hexit : (ga = [] ∨ gb = []) ∨ ∃ p ga' q gb', ga = p :: ga' ∧ gb = q :: gb' := by
      cases ga with
      | nil => exact .inl (.inl rfl)
      | cons p ga =>
        cases gb with
        | nil => exact .inl (.inr rfl)
        | cons q gb => exact .inr ⟨p, ga, q, gb, rfl, rfl⟩
    rcases hexit with hex | ⟨p, ga', q, gb', rfl, rfl⟩
    · have HMM := Lib.hid (show merge ga gb = ga ++ gb by rcases hex with rfl | rfl <;> simp [merge, merge_nil])
      have hexl : ga.length < 1 ∨ (0 < ga.length ∧ gb.length < 1) := by
        rcases hex with rfl | rfl
        · exact .inl (by simp)
        · by_cases h0 : ga.length < 1
          · exact .inl h0
          · exact .inr ⟨by omega, by simp⟩
      clear hA hBB hR hO hB hex
      rcases hexl with h0 | ⟨h0, h1⟩
      · have d0 : decide ((0 : Int) < ga.length) = false := decide_eq_false (by omega)
        go_wp2_with (at_builtin; refine wpList_append_holds rfl (.tmp 45) (.tmp 46) rfl w.heap.size (.slice oa r.length oc) r ga rfl HO.out a c rfl (HA.out.grown HB.out (Nat.le_refl _)) (by omega) (by omega) hzz ?_)
        intro v1 w1 hO1 hg1
        rw [← List.length_append] at hO1
        obtain ⟨r1, hr1⟩ : ∃ r1, r1 = r ++ ga := ⟨_, rfl⟩
        have hl1 : r1.length ≤ r.length + ga.length := by rw [hr1, List.length_append]; omega
        rw [← hr1] at hO1
        have HR1 := Lib.hid hr1
        clear hr1
        have hB1 := below_grown HB.out hzz hg1 (fun k hk => (HO.out.lt k hk).1)
        have hz1 := hB1.size
        have HO1 := Lib.hid hO1; have HB1 := Lib.hid hB1
        clear hO1 hg1 hB1
        go_wp2_with (at_builtin; refine wpList_append_holds rfl (.tmp 47) (.tmp 48) rfl w.heap.size v1 r1 gb rfl HO1.out a2 c2 rfl (HBB.out.grown HB1.out (Nat.le_refl _)) (by omega) (by omega) hz1 ?_)
        intro v2 w2 hO2 hg2
        rw [← List.length_append] at hO2
        have hB2 := below_grown HB1.out hz1 hg2 (fun k hk => (HO1.out.lt k hk).1)
        have HO2 := Lib.hid hO2; have HB2 := Lib.hid hB2
        clear hO2 hg2 hB2
        go_wp2_with fail
        go_ret
        rw [← HR.out, HMM.out, ← List.append_assoc, ← HR1.out]
        exact ⟨_, rfl, own_holds HO2.out, HB2.out⟩
      · have d0 : decide ((0 : Int) < ga.length) = true := decide_eq_true (by omega)
        have d1 : decide ((0 : Int) < gb.length) = false := decide_eq_false (by omega)
        have l0 : (0 : Int) < ga.length := by omega
        go_wp2_with (at_builtin; refine wpList_append_holds rfl (.tmp 45) (.tmp 46) rfl w.heap.size (.slice oa r.length oc) r ga rfl HO.out a c rfl (HA.out.grown HB.out (Nat.le_refl _)) (by omega) (by omega) hzz ?_)
        intro v1 w1 hO1 hg1
        rw [← List.length_append] at hO1
        obtain ⟨r1, hr1⟩ : ∃ r1, r1 = r ++ ga := ⟨_, rfl⟩
        have hl1 : r1.length ≤ r.length + ga.length := by rw [hr1, List.length_append]; omega
        rw [← hr1] at hO1
        have HR1 := Lib.hid hr1
        clear hr1
        have hB1 := below_grown HB.out hzz hg1 (fun k hk => (HO.out.lt k hk).1)
        have hz1 := hB1.size
        have HO1 := Lib.hid hO1; have HB1 := Lib.hid hB1
        clear hO1 hg1 hB1
        go_wp2_with (at_builtin; refine wpList_append_holds rfl (.tmp 47) (.tmp 48) rfl w.heap.size v1 r1 gb rfl HO1.out a2 c2 rfl (HBB.out.grown HB1.out (Nat.le_refl _)) (by omega) (by omega) hz1 ?_)
        intro v2 w2 hO2 hg2
        rw [← List.length_append] at hO2
        have hB2 := below_grown HB1.out hz1 hg2 (fun k hk => (HO1.out.lt k hk).1)
        have HO2 := Lib.hid hO2; have HB2 := Lib.hid hB2
        clear hO2 hg2 hB2
        go_wp2_with fail
        go_ret
        rw [← HR.out, HMM.out, ← List.append_assoc, ← HR1.out]
        exact ⟨_, rfl, own_holds HO2.out, HB2.out⟩
    · obtain ⟨b, off, rfl, hb, hc⟩ := hA.open (by simp)
      obtain ⟨b2, off2, rfl, hb2, hc2⟩ := hBB.open (by simp)
      have c0 := (hB.cell (p := ⟨b, off + 0 * 2, none⟩) hb).trans (hc 0 (by simp)).1
      have c1 := (hB.cell (p := ⟨b, off + 0 * 2 + 1, none⟩) hb).trans (hc 0 (by simp)).2
      have d0 := (hB.cell (p := ⟨b2, off2 + 0 * 2, none⟩) hb2).trans (hc2 0 (by simp)).1
      have d1 := (hB.cell (p := ⟨b2, off2 + 0 * 2 + 1, none⟩) hb2).trans (hc2 0 (by simp)).2
      rw [Nat.zero_mul, Nat.add_zero] at c0 c1 d0 d1
      simp only [List.getElem_cons_zero] at c0 c1 d0 d1
      simp only [List.length_cons] at hsm ⊢ HA HBB
      have HCM := Lib.hid (show cmpI p.1 q.1 = if lt p.1 q.1 then -1 else if lt q.1 p.1 then 1 else 0 from rfl)
      obtain ⟨cm, hcm⟩ : ∃ cm, cm = cmpI p.1 q.1 := ⟨_, rfl⟩
      have hcall := fun W => cmp_q p.1 q.1 W
      rw [← hcm] at hcall HCM
      have HCALL := Lib.hid hcall
      clear hA hBB hR hO hB hc hc2 hcm hcall
      have l1 : (0 : Int) < (ga'.length : Int) + 1 := by omega
      have m1 : (1 : Int) ≤ (ga'.length : Int) + 1 := by omega
      have m2 : (1 : Int) ≤ (gb'.length : Int) + 1 := by omega
      have l2 : (0 : Int) < (gb'.length : Int) + 1 := by omega
      go_wp2_with fail
      go_quiet ((go_at_call 26; exact Calls.quiet_of_same (HCALL.out _)))
      have hX : (wr.drewN nq).cell? ⟨b, off, none⟩ = some (.string p.1) ∧ (wr.drewN nq).cell? ⟨b, off + 1, none⟩ = some (.string p.2) ∧ (wr.drewN nq).cell? ⟨b2, off2, none⟩ = some (.string q.1) ∧ (wr.drewN nq).cell? ⟨b2, off2 + 1, none⟩ = some (.string q.2) := ⟨c0, c1, d0, d1⟩
      have HO2 := Lib.hid (own_grown HO.out (below_drewN (Below.refl wr.heap.size wr) nq) (Nat.le_refl _)); have HB2 := Lib.hid (below_drewN HB.out nq)
      clear c0 c1 d0 d1 HO HB hzz
      generalize wr.drewN nq = w2 at hX HO2 HB2 ⊢
      obtain ⟨c0, c1, d0, d1⟩ := hX
      have hz2 := HB2.out.size
      cases hl : lt p.1 q.1 with
      | true =>
        have HM := Lib.hid (show merge (p :: ga') (q :: gb') = p :: merge ga' (q :: gb') by rw [merge, if_pos hl])
        have hcm : cm = -1 := by rw [HCM.out, if_pos hl]
        clear hl HCM HCALL
        subst hcm
        by_cases hcap : c = 1
        · subst hcap
          obtain ⟨rfl, hA2⟩ := HA.out.tail_one
          have HA2 := Lib.hid hA2
          clear hA2
          go_wp2_with fail
          go_region_law (refine step_append_own rfl (.tmp 27) (.tmp 31) 22 rfl w.heap.size 43 i0 (.agg #[.string { data := #[] }, .string { data := #[] }]) 2 32 Try.underlying22 hi y0 y1 y2 rfl (by decide) (.slice oa r.length oc) r.length (pairCells r) (by simp [Act.eval]) (HO2.out.drew.alloc _) ⟨w2.heap.size, 0, none⟩ 1 1 [.string p.1, .string p.2] (by simp [Act.eval]) rfl ?a1 ?a2 ?a3 ?a4 ?a5 ?_; (case a1 => (intro j u h; rw [add_plain, Nat.zero_add, ← h]; exact (World.cell?_alloc_new w2 _ _ j).trans (by simp))); (case a2 => (intro u hu; simp at hu; rcases hu with rfl | rfl <;> rfl)); (case a3 => (unfold maxLen; omega)); (case a4 => omega); (case a5 => (first | omega | (simp; omega))); intro v' w5 hO5 hg5)
          all_goals
            have HB5 := Lib.hid (below_grown (HB2.out.alloc hz2 _).drew (by simp; omega) hg5 (fun k hk => (HO2.out.lt k hk).1))
            have HO5 : Hid (w5.ownsRow w.heap.size 43 2 v' (r ++ [p]).length (pairCells (r ++ [p]))) := by rw [pairCells_snoc, List.length_append]; exact Lib.hid hO5
            clear hO5 hg5
            simp [Act.put]
            go_wp2_with fail
            go_roundw
            case rel => exact ⟨[], q :: gb', r ++ [p], HA2.out, HBB.out, by rw [← HR.out, HM.out]; simp, by rw [List.length_append]; simp; omega, HO5.out, HB5.out⟩
            case measure => simp [sliceLen]
        · have HA2 := Lib.hid (HA.out.tail)
          go_wp2_with fail
          go_region_law (refine step_append_own rfl (.tmp 27) (.tmp 31) 22 rfl w.heap.size 43 i0 (.agg #[.string { data := #[] }, .string { data := #[] }]) 2 32 Try.underlying22 hi y0 y1 y2 rfl (by decide) (.slice oa r.length oc) r.length (pairCells r) (by simp [Act.eval]) (HO2.out.drew.alloc _) ⟨w2.heap.size, 0, none⟩ 1 1 [.string p.1, .string p.2] (by simp [Act.eval]) rfl ?b1 ?b2 ?b3 ?b4 ?b5 ?_; (case b1 => (intro j u h; rw [add_plain, Nat.zero_add, ← h]; exact (World.cell?_alloc_new w2 _ _ j).trans (by simp))); (case b2 => (intro u hu; simp at hu; rcases hu with rfl | rfl <;> rfl)); (case b3 => (unfold maxLen; omega)); (case b4 => omega); (case b5 => (first | omega | (simp; omega))); intro v' w5 hO5 hg5)
          all_goals
            have HB5 := Lib.hid (below_grown (HB2.out.alloc hz2 _).drew (by simp; omega) hg5 (fun k hk => (HO2.out.lt k hk).1))
            have HO5 : Hid (w5.ownsRow w.heap.size 43 2 v' (r ++ [p]).length (pairCells (r ++ [p]))) := by rw [pairCells_snoc, List.length_append]; exact Lib.hid hO5
            clear hO5 hg5
            simp [Act.put]
            go_wp2_with fail
            go_roundw
            case rel => exact ⟨ga', q :: gb', r ++ [p], HA2.out, HBB.out, by rw [← HR.out, HM.out]; simp, by rw [List.length_append]; simp; omega, HO5.out, HB5.out⟩
            case measure => simp [sliceLen]
      | false =>
        cases hl2 : lt q.1 p.1 with
        | true =>
          have HM := Lib.hid (show merge (p :: ga') (q :: gb') = q :: merge (p :: ga') gb' by rw [merge, if_neg (by simp [hl]), if_pos hl2])
          have hcm : cm = 1 := by rw [HCM.out, if_neg (by simp [hl]), if_pos hl2]
          clear hl hl2 HCM HCALL
          subst hcm
          by_cases hcap : c2 = 1
          · subst hcap
            obtain ⟨rfl, hA2⟩ := HBB.out.tail_one
            have HA2 := Lib.hid hA2
            clear hA2
            go_wp2_with fail
            go_region_law (refine step_append_own rfl (.tmp 37) (.tmp 41) 22 rfl w.heap.size 43 i0 (.agg #[.string { data := #[] }, .string { data := #[] }]) 2 32 Try.underlying22 hi y0 y1 y2 rfl (by decide) (.slice oa r.length oc) r.length (pairCells r) (by simp [Act.eval]) (HO2.out.drew.alloc _) ⟨w2.heap.size, 0, none⟩ 1 1 [.string q.1, .string q.2] (by simp [Act.eval]) rfl ?a1x ?a2x ?a3x ?a4x ?a5x ?_; (case a1x => (intro j u h; rw [add_plain, Nat.zero_add, ← h]; exact (World.cell?_alloc_new w2 _ _ j).trans (by simp))); (case a2x => (intro u hu; simp at hu; rcases hu with rfl | rfl <;> rfl)); (case a3x => (unfold maxLen; omega)); (case a4x => omega); (case a5x => (first | omega | (simp; omega))); intro v' w5 hO5 hg5)
            all_goals
              have HB5 := Lib.hid (below_grown (HB2.out.alloc hz2 _).drew (by simp; omega) hg5 (fun k hk => (HO2.out.lt k hk).1))
              have HO5 : Hid (w5.ownsRow w.heap.size 43 2 v' (r ++ [q]).length (pairCells (r ++ [q]))) := by rw [pairCells_snoc, List.length_append]; exact Lib.hid hO5
              clear hO5 hg5
              simp [Act.put]
              go_wp2_with fail
              go_roundw
              case rel => exact ⟨p :: ga', [], r ++ [q], HA.out, HA2.out, by rw [← HR.out, HM.out]; simp, by rw [List.length_append]; simp; omega, HO5.out, HB5.out⟩
              case measure => simp [sliceLen]
          · have HA2 := Lib.hid (HBB.out.tail)
            go_wp2_with fail
            go_region_law (refine step_append_own rfl (.tmp 37) (.tmp 41) 22 rfl w.heap.size 43 i0 (.agg #[.string { data := #[] }, .string { data := #[] }]) 2 32 Try.underlying22 hi y0 y1 y2 rfl (by decide) (.slice oa r.length oc) r.length (pairCells r) (by simp [Act.eval]) (HO2.out.drew.alloc _) ⟨w2.heap.size, 0, none⟩ 1 1 [.string q.1, .string q.2] (by simp [Act.eval]) rfl ?b1x ?b2x ?b3x ?b4x ?b5x ?_; (case b1x => (intro j u h; rw [add_plain, Nat.zero_add, ← h]; exact (World.cell?_alloc_new w2 _ _ j).trans (by simp))); (case b2x => (intro u hu; simp at hu; rcases hu with rfl | rfl <;> rfl)); (case b3x => (unfold maxLen; omega)); (case b4x => omega); (case b5x => (first | omega | (simp; omega))); intro v' w5 hO5 hg5)
            all_goals
              have HB5 := Lib.hid (below_grown (HB2.out.alloc hz2 _).drew (by simp; omega) hg5 (fun k hk => (HO2.out.lt k hk).1))
              have HO5 : Hid (w5.ownsRow w.heap.size 43 2 v' (r ++ [q]).length (pairCells (r ++ [q]))) := by rw [pairCells_snoc, List.length_append]; exact Lib.hid hO5
              clear hO5 hg5
              simp [Act.put]
              go_wp2_with fail
              go_roundw
              case rel => exact ⟨p :: ga', gb', r ++ [q], HA.out, HA2.out, by rw [← HR.out, HM.out]; simp, by rw [List.length_append]; simp; omega, HO5.out, HB5.out⟩
              case measure => simp [sliceLen]
        | false =>
          have HM := Lib.hid (show merge (p :: ga') (q :: gb') = merge ga' (q :: gb') by rw [merge, if_neg (by simp [hl]), if_neg (by simp [hl2])])
          have hcm : cm = 0 := by rw [HCM.out, if_neg (by simp [hl]), if_neg (by simp [hl2])]
          clear hl hl2 HCM HCALL
          subst hcm
          by_cases hcap : c = 1
          · subst hcap
            obtain ⟨rfl, hA2⟩ := HA.out.tail_one
            have HA2 := Lib.hid hA2
            clear hA2
            go_wp2_with fail
            go_roundw
            case rel => exact ⟨[], q :: gb', r, HA2.out, HBB.out, by rw [← HR.out, HM.out], by simp at hsm ⊢; omega, HO2.out, HB2.out⟩
            case measure => simp [sliceLen]
          · have HA2 := Lib.hid (HA.out.tail)
            go_wp2_with fail
            go_roundw
            case rel => exact ⟨ga', q :: gb', r, HA2.out, HBB.out, by rw [← HR.out, HM.out], by simp at hsm ⊢; omega, HO2.out, HB2.out⟩
            case measure => simp [sliceLen]
end Go.Proofs.Ytjckfdpkcaloiaa
