/- The document's own queue: Leave. -/
import Derived.Test.YtcklfdpmggoafaaRefQ
namespace Go.Proofs.Ytcklfdpmggoafaa
open Go.RowKit Go.Lib Go.WideShapes Go.Maps

/-- Leave's answer. -/
def rl (L : Waits) (id : Int) : Waits × Bool := if (look L id).isSome then (L.filter fun q => !decide (q.1 = id), true) else (L, false)

theorem own_zero {w : World} {base size n : Nat} {e : TypeId} {v : Value} {xs : List Value} (h : w.ownsRow base e size v n xs) : w.ownsRow 0 e size v n xs := by
  refine ⟨h.1, h.2.imp id ?_⟩
  rintro ⟨g, cap, cur, h1, _, h3⟩
  exact ⟨g, cap, cur, h1, Nat.zero_le _, h3⟩

set_option maxHeartbeats 8000000 in
theorem rleave_any (p : Nat) (o : Value) (most : Int) (L : Waits) (id : Int) (w : World) (h : RIs w p o most L) (hlen : (L.length : Int) ≤ 1000) (hn : (L.map (·.1)).Nodup) :
    Calls Try.prog 16 #[.pointer (some ⟨p, 0, none⟩), .int .i64 id] w (RLeft p o most (rl L id).1 (.bool (rl L id).2) w) := by
  obtain ⟨i0, hi, y0, y1, y2⟩ := info_parts Try.info46
  obtain ⟨c0, c1, f0⟩ := h.cell
  obtain ⟨oa, oc, rfl⟩ := ownsRow_form h.row
  have H := Lib.hid h
  have F0 := Lib.hid f0; have HN := Lib.hid hn
  clear h f0 hn
  go_enter Try.func16, Try.ntmps16
  go_wp2_with fail
  go_loop [5, 5] (fun i _ => ∃ k : Nat, k ≤ L.length ∧ i = .int .i64 k ∧ look (L.drop k) id = look L id) (fun i _ => L.length - (intOf i).toNat)
  case atStart => exact ⟨0, Nat.zero_le _, rfl, rfl⟩
  case round =>
    obtain ⟨k, hk, rfl, hL⟩ := hrel
    have HL := Lib.hid hL
    clear hL
    by_cases hlt : k < L.length
    · obtain ⟨g, cap, ho, hgl, hnc, hcm, d0, _⟩ := H.out.at hlt
      injection ho with ho1 _ ho2
      subst ho1
      subst ho2
      have HD := Lib.hid (show look (L.drop k) id = if L[k].1 = id then some L[k].2 else look (L.drop (k + 1)) id by rw [List.drop_eq_getElem_cons hlt, look_cons])
      have HFI := Lib.hid (filter_at hlt HN.out)
      obtain ⟨q, hq⟩ : ∃ q, q = L[k] := ⟨_, rfl⟩
      rw [← hq] at d0 HD HFI
      clear hq
      by_cases e : q.1 = id
      · have he : (q.1 == id) = true := by simpa using e
        have HS := Lib.hid (show (look L id).isSome = true by rw [← HL.out, HD.out, if_pos e]; rfl)
        rw [e] at HFI
        clear e HD HL
        obtain ⟨n, hln⟩ : ∃ n, n = L.length := ⟨_, rfl⟩
        rw [← hln] at c1 hlt hlen hnc hk
        have hcm' : oc ≤ 9223372036854775807 := by unfold maxLen at hcm; omega
        have hcells := (H.out.row.cells (g := g) rfl)
        have hl1 : (waitCells (L.take k)).length = k * 2 := by rw [waitCells_length, List.length_take]; omega
        have hl2 : (waitCells (L.drop (k + 1))).length = (n - (k + 1)) * 2 := by rw [waitCells_length, List.length_drop, hln]
        have hs1 : ∀ j u, (waitCells (L.take k))[j]? = some u → w.cell? ((⟨g, 0, none⟩ : Addr).add j) = some u := by
          intro j u hu
          refine hcells j u ?_
          rw [← waitCells_take, List.getElem?_take] at hu
          split at hu
          · exact hu
          · cases hu
        obtain ⟨ax, hA, hs2⟩ : ∃ ax : Nat, (if oc = k + 1 then some (⟨g, 0, none⟩ : Addr) else some ⟨g, (k + 1) * 2, none⟩) = some ⟨g, ax, none⟩ ∧ (∀ t u, (waitCells (L.drop (k + 1)))[t]? = some u → w.cell? ⟨g, ax + t, none⟩ = some u) := by
          by_cases hc : oc = k + 1
          · refine ⟨0, by simp [hc], fun t u hu => ?_⟩
            have h0 : (waitCells (L.drop (k + 1))).length = 0 := by rw [hl2]; omega
            rw [List.length_eq_zero_iff.1 h0] at hu
            simp at hu
          · refine ⟨(k + 1) * 2, by simp [hc], fun t u hu => ?_⟩
            rw [← waitCells_drop, List.getElem?_drop] at hu
            have := hcells _ _ hu
            rw [add_plain] at this
            simpa using this
        have HL1 := Lib.hid hl1; have HL2 := Lib.hid hl2; have HS1 := Lib.hid hs1; have HS2 := Lib.hid hs2; have HLN := Lib.hid hln
        have q1 : (0 : Int) ≤ (k : Int) + 1 := by omega
        have q2 : ((k : Int) + 1).toNat = k + 1 := by omega
        have q3 : (k : Int) + 1 ≤ n := by omega
        obtain ⟨hp, ho, hop⟩ := H.out.lt
        have hpg : p ≠ g := fun e => hop (by rw [e]; rfl)
        clear hl1 hl2 hs1 hs2 hcells hln ho hop
        go_wp2_with fail
        have k0 : (0 : Int) ≤ (k : Int) := by omega
        have k1 : (k : Int) ≤ n := by omega
        have k2 : (k : Int) ≤ oc := by omega
        have k3 : (n : Int) ≤ oc := by omega
        have k4 : (k : Int) + 1 ≤ oc := by omega
        have kw : IntKind.i64.wrap ((k : Int) + 1) = (k : Int) + 1 := by rw [IntKind.wrap_i64]; omega
        have k5 : k ≤ oc := by omega
        have k6 : k + 1 ≤ oc := by omega
        obtain ⟨W0, hW0⟩ : ∃ W0, W0 = (w.alloc (.cells #[] 46)).drew := ⟨_, rfl⟩
        have hz0 : W0.heap.size = w.heap.size + 1 := by rw [hW0]; show (w.alloc _).heap.size = _; rw [World.size_alloc]
        have hM1 : W0.ownsRow w.heap.size 46 2 (.slice (some ⟨w.heap.size, 0, none⟩) 0 0) 0 [] := by
          rw [hW0]; exact (World.ownsRow_made (e := 46) (size := 2) w #[] 0 (Nat.le_refl _) (Nat.zero_le _) (by simp)).drew
        have hN1 : ∀ (j : Nat) (u : Value), (waitCells (L.take k))[j]? = some u → W0.cell? ((⟨g, 0, none⟩ : Addr).add j) = some u := by
          intro j u hu; rw [hW0]; exact (Lib.cell?_alloc_some (W := w) (.cells #[] 46) (HS1.out j u hu))
        have hblk0 : ∀ j, j < w.heap.size → W0.heap[j]? = w.heap[j]? := by
          intro j hj; rw [hW0]; first | exact heap_alloc_old w _ j hj | exact heap_alloc_old w _ hj
        have hos0 : W0.os = w.os ∧ W0.tape = w.tape ∧ W0.output = w.output := by rw [hW0]; exact ⟨rfl, rfl, rfl⟩
        rw [hW0] at hM1 hN1
        have HM1 := Lib.hid hM1; have HN1 := Lib.hid hN1; have HBL := Lib.hid hblk0; have HZ := Lib.hid hz0; have HOS := Lib.hid hos0; have HW0 := Lib.hid hW0
        clear hM1 hN1 hblk0 hz0 hos0 hW0
        go_region_law (first
          | (refine step_append_own (by rfl) (.tmp 26) (.tmp 32) 42 (by rfl) w.heap.size 46 i0 (.agg #[.int .i64 0, .int .i64 0]) 2 16 Try.underlying42 hi y0 y1 y2 (by rfl) (by decide) (.slice (some ⟨w.heap.size, 0, none⟩) 0 0) 0 [] (by simp [Act.eval, Act.put]) HM1.out ⟨g, 0, none⟩ k oc (waitCells (L.take k)) (by simp [Act.eval, Act.put]) HL1.out HN1.out (wait_one _) (by unfold maxLen; omega) (by omega) (by rw [← HW0.out, HZ.out]; omega) ?_; rw [← HW0.out]; intro v1 w1 hO1 hg1; have S1 : w1.cell? ⟨p, 1, none⟩ = some (.slice (some ⟨g, 0, none⟩) n oc) := (World.cell?_of_block (a := ⟨p, 1, none⟩) ((hg1.block p (by rw [HZ.out]; omega) (by first | (simp [Value.ownBlock]; done) | (simp [Value.ownBlock]; omega))).trans (HBL.out p hp))).trans c1; have hzw := hg1.size; rw [HZ.out] at hzw; have HB1 := Lib.hid (fun (j : Nat) (hj : j < w.heap.size) => (hg1.block j (by rw [HZ.out]; omega) (by first | (simp [Value.ownBlock]; done) | (simp [Value.ownBlock]; omega))).trans (HBL.out j hj)); have HO1 := Lib.hid hO1; have HG1 := Lib.hid hg1; clear hO1 hg1)
          | (refine step_append_own (by rfl) (.tmp 33) (.tmp 40) 42 (by rfl) w.heap.size 46 i0 (.agg #[.int .i64 0, .int .i64 0]) 2 16 Try.underlying42 hi y0 y1 y2 (by rfl) (by decide) v1 (0 + k) ([] ++ waitCells (L.take k)) (by simp [Act.eval, Act.put]) HO1.out ⟨g, ax, none⟩ (n - (k + 1)) (oc - (k + 1)) (waitCells (L.drop (k + 1))) (by simp [Act.eval, Act.put]) HL2.out (fun t u hu => by rw [add_plain]; exact (World.cell?_of_block (a := ⟨g, ax + t, none⟩) (HB1.out g hgl)).trans (HS2.out t u hu)) (wait_one _) (by unfold maxLen; omega) (by omega) (by omega) ?_; intro v2 w2 hO2 hg2; obtain ⟨va, vc, rfl⟩ := ownsRow_form hO2; have hz2 := hg2.size; have HB2 := Lib.hid (fun (j : Nat) (hj : j < w.heap.size) => (hg2.block j (by omega) (fun e => by have := (HO1.out.lt j e.symm).1; omega)).trans (HB1.out j hj)); have S1 : w2.cell? ⟨p, 1, none⟩ = some (.slice (some ⟨g, 0, none⟩) n oc) := (World.cell?_of_block (a := ⟨p, 1, none⟩) (HB2.out p hp)).trans c1; have F1 : w2.frozen? ⟨p, 1, none⟩ = false := (World.frozen?_of_block (a := ⟨p, 1, none⟩) (HB2.out p hp)).trans (F0.out 1); have HO2 := Lib.hid hO2; have HG2 := Lib.hid hg2; clear hO2 hg2))
        all_goals
          have hO3 : w2.ownsRow 0 46 2 (.slice va (0 + k + (n - (k + 1))) vc) (L.filter fun q => !decide (q.1 = id)).length (waitCells (L.filter fun q => !decide (q.1 = id))) := by
            have hO2 := own_zero HO2.out
            rw [List.nil_append] at hO2
            rw [HFI.out, waitCells_append, List.length_append, List.length_take, List.length_drop, ← HLN.out, show min k n + (n - (k + 1)) = 0 + k + (n - (k + 1)) by omega]
            exact hO2
          have HE := Lib.hid (ref_end (w := w) (w1 := w2) H.out hO3 (HB2.out p hp) (fun j hj _ => HB2.out j hj) ⟨(HG2.out.os.trans HG1.out.os).trans HOS.out.1, (HG2.out.tape.trans HG1.out.tape).trans HOS.out.2.1, (HG2.out.output.trans HG1.out.output).trans HOS.out.2.2, by omega⟩ (fun j hj => .inr (HO2.out.lt j hj).1))
          clear hO3
          go_wp2_with fail
          go_ret
          unfold rl
          rw [if_pos HS.out]
          have hE := HE.out
          simp only [Nat.zero_add] at hE
          exact ⟨rfl, _, hE.1, hE.2⟩
      · have he : (q.1 == id) = false := by simpa using e
        have HS := Lib.hid (show look (L.drop (k + 1)) id = look L id by rw [← HL.out, HD.out, if_neg e])
        clear e HD HFI
        go_wp2_with fail
        go_round
        case rel => exact ⟨k + 1, by omega, by go_num, HS.out⟩
        case measure => simp [intOf]; omega
    · obtain rfl : k = L.length := by omega
      have HNO := Lib.hid (show look L id = none by rw [← HL.out, List.drop_length]; rfl)
      clear HL
      go_wp2_with fail
      go_ret
      unfold rl
      rw [if_neg (by rw [HNO.out]; simp)]
      exact ⟨rfl, _, H.out, Kept.refl _ _⟩
end Go.Proofs.Ytcklfdpmggoafaa
