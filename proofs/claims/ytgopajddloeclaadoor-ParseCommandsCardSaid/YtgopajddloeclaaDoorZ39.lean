/- Contracts and mathematics: QRParse. -/
import Derived.Test.YtgopajddloeclaaDoorZ38
import Derived.Test.YtgopajddloeclaaDoorZ32
import Derived.Test.YtgopajddloeclaaDoorZ26
namespace Go.Proofs.YtgopajddloeclaaDoor
open Go.RowKit Go.Lib Go.WideShapes

theorem own_tokc {w : World} {B g c : Nat} {x : List Tok} (h : w.ownsRow B 66 4 (.slice (some ⟨g, 0, none⟩) x.length c) x.length (tokC x)) : x.length ≤ c ∧ c ≤ 9223372036854775807 ∧ TokW w (some ⟨g, 0, none⟩) x := by
  have hl := (h.lt g rfl).2
  have hh := h
  rcases h.2 with ⟨hv, _⟩ | ⟨g', cap, cur, hv, hb, hg, hn, hc, _⟩
  · cases hv
  · cases hv
    refine ⟨hn, by have := hc; simp only [maxLen] at this; omega, ?_⟩
    refine .inr ⟨g, 0, rfl, hl, fun i q hq => ?_⟩
    obtain ⟨a0, a1, a2, a3⟩ := tokC_at x i q hq
    have hi : i < x.length := (List.getElem?_eq_some_iff.1 hq).1
    rw [Nat.zero_add]
    exact ⟨(hh.cellAt (i * 4) (by omega)).trans a0, (hh.cellAt (i * 4 + 1) (by omega)).trans a1, _, _, (hh.cellAt (i * 4 + 2) (by omega)).trans a2, (hh.cellAt (i * 4 + 3) (by omega)).trans a3⟩
theorem parsed_bad {l : Bs} (h : (told l).2 ≠ 0) : parsedC l = (noCmd, (told l).2.toNat) ∧ (((told l).2.toNat : Nat) : Int) = (told l).2 := by
  unfold told at h ⊢
  unfold parsedC
  by_cases h1 : 2000 < l.length
  · rw [if_pos h1, if_pos h1]; exact ⟨rfl, rfl⟩
  · rw [if_neg h1] at h
    rw [if_neg h1, if_neg h1]
    cases ht : tokens l with
    | none => exact ⟨rfl, rfl⟩
    | some T => rw [ht] at h; exact absurd rfl h
theorem parsed_good {l : Bs} (h : (told l).2 = 0) : parsedC l = (parsedT (told l).1, 0) ∧ (told l).1.length ≤ 2000 ∧ ∀ q ∈ (told l).1, q.text.length ≤ 2000 := by
  unfold told at h ⊢
  unfold parsedC
  by_cases h1 : 2000 < l.length
  · rw [if_pos h1] at h; cases h
  · rw [if_neg h1] at h
    rw [if_neg h1, if_neg h1]
    cases ht : tokens l with
    | none => rw [ht] at h; cases h
    | some T => exact ⟨rfl, by have h2 := (tokens_facts ht).1; show T.length ≤ 2000; omega, fun q hq => Nat.le_trans (tokens_small ht q hq) (by omega)⟩
set_option maxRecDepth 100000 in
set_option maxHeartbeats 8000000 in
theorem rparse_any (s : ByteArray) (w : World) (h9 : s.size ≤ 9223372036854775807) :
    Calls Tryd.prog 12 #[.string s] w fun e w' => e = .returned (.tuple #[(parsedC (bytes s)).1.val, .int .i64 ((parsedC (bytes s)).2 : Nat)]) ∧ Below w.heap.size w w' := by
  obtain ⟨q, hq⟩ : ∃ q, q = parsedC (bytes s) := ⟨_, rfl⟩
  rw [← hq]
  have HQ := Lib.hid hq
  obtain ⟨W0, hW0⟩ : ∃ x, x = w.alloc (.cells #[.int .u8 0, .string { data := #[] }, .string { data := #[] }] 31) := ⟨_, rfl⟩
  have hb0 : Below w.heap.size w W0 := by rw [hW0]; exact (Below.refl _ _).alloc (Nat.le_refl _) _
  have HE := Lib.hid hW0
  have HCM := Lib.hid (show CmdCell W0 w.heap.size from by rw [hW0]; exact heap_alloc_new w _)
  have HZ := Lib.hid (show W0.heap.size = w.heap.size + 1 from by rw [hW0]; simp)
  have HB0 := Lib.hid hb0
  have HSP := Lib.hid (qsplit_any s W0 h9)
  have HBAD := Lib.hid (@parsed_bad (bytes s))
  have HGOOD := Lib.hid (@parsed_good (bytes s))
  obtain ⟨R, hR⟩ : ∃ R, R = told (bytes s) := ⟨_, rfl⟩
  rw [← hR] at HSP HBAD HGOOD
  unfold Cmd.val
  clear hq hb0 hR hW0
  go_enter Tryd.func12, Tryd.ntmps12
  go_wp2_with fail
  rw [← HE.out]
  refine HSP.out.mono ?_; rintro e w1 ⟨hb1, hcs⟩
  have hcm1 : CmdCell w1 w.heap.size := (hb1.block w.heap.size (by rw [HZ.out]; omega)).trans HCM.out
  obtain ⟨⟨k0, k1, k2⟩, ⟨f0, f1, f2⟩⟩ := hcm1.cell
  have HCM1 := Lib.hid hcm1
  have HB1 := Lib.hid (show Below w.heap.size w w1 from HB0.out.step hb1 HB0.out.size)
  clear hb1 HSP hcm1
  rcases hcs with ⟨h0, rfl⟩ | ⟨h0, ov, xs, rfl, hst, hfs⟩
  · have HE2 := Lib.hid (HQ.out.trans (HBAD.out h0).1)
    have HV := Lib.hid (HBAD.out h0).2
    have t1 : (R.2 != 0) = true := by rw [bne_iff_ne]; exact h0
    clear h0
    go_wp2_with fail
    simp [bodyPost, results, Tryd.results12, go_sem, k0, k1, k2]
    rw [HE2.out]
    refine ⟨⟨⟨rfl, rfl, rfl⟩, by show _ = ((R.2.toNat : Nat) : Int); rw [HV.out]⟩, ?_⟩
    exact ((HB1.out.setCell (Nat.le_refl _) _).setCell (Nat.le_refl _) _).setCell (Nat.le_refl _) _
  · obtain ⟨hpq, hln, htx⟩ := HGOOD.out h0
    have HE1 := Lib.hid (HQ.out.trans hpq)
    have HLN := Lib.hid (And.intro hln htx)
    obtain ⟨D, hD⟩ : ∃ D, D = splits R.1 := ⟨_, rfl⟩
    have HD := Lib.hid hD
    rw [← hD] at hst hfs
    obtain ⟨oa, oc, rfl⟩ := ownsRow_form hst
    have HST := Lib.hid hst
    have HFS := Lib.hid hfs
    clear h0 hpq hln htx hD hst hfs
    cases D with
    | nil =>
      have HE2 := Lib.hid (show q = (⟨48, [], []⟩, 0) from by rw [HE1.out]; unfold parsedT; rw [← HD.out])
      go_wp2_with fail
      simp [bodyPost, results, Tryd.results12, go_sem, k0, k1, k2]
      rw [HE2.out]
      refine ⟨⟨⟨rfl, rfl, rfl⟩, rfl⟩, ?_⟩
      exact ((HB1.out.setCell (Nat.le_refl _) _).setCell (Nat.le_refl _) _).setCell (Nat.le_refl _) _
    | cons x D =>
      cases D with
      | nil =>
        have HXX := Lib.hid (show splits R.1 = [x] from HD.out.symm)
        have HE1 := Lib.hid (show q = (ofC x, 0) from by rw [HE1.out]; unfold parsedT; rw [HXX.out])
        obtain ⟨g, c, hx0, hrow, _⟩ := HFS.out x rfl
        obtain ⟨hxc, hc9, htw⟩ := own_tokc hrow
        have HML := Lib.hid (splits_mem' HXX.out)
        have HOF := Lib.hid (rof_any (some ⟨g, 0, none⟩) x x.length c w1 rfl (by have := HML.out.1; have := HLN.out.1; omega) hxc hc9 htw (fun q hq => HLN.out.2 q (HML.out.2 q hq)))
        obtain ⟨gs, hgs, hcl⟩ : ∃ gs, oa = some ⟨gs, 0, none⟩ ∧ w1.cell? ⟨gs, 0, none⟩ = some (.slice (some ⟨g, 0, none⟩) x.length c) := by
          rcases HST.out.2 with ⟨hv, hz⟩ | ⟨g', cap, cur, hv, _⟩
          · cases hz
          · cases hv
            exact ⟨g', rfl, (HST.out.cellAt 0 (by simp)).trans hx0⟩
        subst hgs
        obtain ⟨m, hm⟩ : ∃ m, m = x.length := ⟨_, rfl⟩
        rw [← hm] at hcl HOF
        have hl1 : ([x].length : Nat) = 1 := rfl
        rw [hl1]
        clear hx0 hrow hxc hc9 htw hm hl1
        go_wp2_with fail
        refine HOF.out.mono ?_; rintro e w2 ⟨rfl, hb2⟩
        have hcm2 : CmdCell w2 w.heap.size := (hb2.block w.heap.size (Array.getElem?_eq_some_iff.1 HCM1.out).1).trans HCM1.out
        clear k0 k1 k2 f0 f1 f2
        obtain ⟨⟨k0, k1, k2⟩, ⟨f0, f1, f2⟩⟩ := hcm2.cell
        have HB2 := Lib.hid (show Below w.heap.size w w2 from HB1.out.step hb2 HB1.out.size)
        clear hb2 hcm2
        obtain ⟨k, hk⟩ : ∃ k, k = ofC x := ⟨_, rfl⟩
        rw [← hk]
        have HE2 := Lib.hid (show q = (k, 0) from by rw [HE1.out, hk])
        clear hk
        unfold Cmd.val
        go_wp2_with fail
        simp [bodyPost, results, Tryd.results12, go_sem, k0, k1, k2]
        rw [HE2.out]
        refine ⟨⟨⟨rfl, rfl, rfl⟩, rfl⟩, ?_⟩
        exact ((HB2.out.setCell (Nat.le_refl _) _).setCell (Nat.le_refl _) _).setCell (Nat.le_refl _) _
      | cons y D =>
        have HE2 := Lib.hid (show q = (⟨109, [], []⟩, 0) from by rw [HE1.out]; unfold parsedT; rw [← HD.out])
        obtain ⟨n, hn⟩ : ∃ n, n = (x :: y :: D).length := ⟨_, rfl⟩
        have hn1 : (1 : Int) < n := by rw [hn]; simp; omega
        have hn0 : ((n : Int) == 0) = false := by rw [beq_eq_false_iff_ne]; omega
        rw [← hn]
        clear hn
        go_wp2_with fail
        simp [bodyPost, results, Tryd.results12, go_sem, k0, k1, k2]
        rw [HE2.out]
        refine ⟨⟨⟨rfl, rfl, rfl⟩, rfl⟩, ?_⟩
        exact ((HB1.out.setCell (Nat.le_refl _) _).setCell (Nat.le_refl _) _).setCell (Nat.le_refl _) _
end Go.Proofs.YtgopajddloeclaaDoor
