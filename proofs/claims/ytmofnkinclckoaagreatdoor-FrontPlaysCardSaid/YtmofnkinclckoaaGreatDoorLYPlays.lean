/- What is asked for by bytes, piece by piece, and whether it is over, are as the chapter says: FrontPlays answers true, whatever it is called with, and leaves what was there as it was. (Over the listed variables, tied to the program's text.) -/
import Derived.Test.YtmofnkinclckoaaGreatDoorZ41
import Derived.Test.YtmofnkinclckoaaGreatDoorZ40
import Derived.Test.YtmofnkinclckoaaGreatDoorZ35
namespace Go.Proofs.YtmofnkinclckoaaGreatDoor
open Go.RowKit Go.Lib Go.WideShapes Go.ChangeShapes Go.ChangeAt Go.Joins

set_option maxRecDepth 100000 in
set_option maxHeartbeats 32000000 in
theorem plays_walk (tv : Value) (T : List Bs) (w : World) (hT : TextsIn w tv T) (hTz : ∀ t ∈ T, t.length ≤ 140737488351232) :
    Calls Tryz.prog 3 #[tv] w fun e w' => e = .returned (.bool true) ∧ Below w.heap.size w w' := by
  have HTZ := Lib.hid hTz
  obtain ⟨ta, n, tc, rfl, hTl, hnc, htc9, hTc⟩ := hT
  have HTL := Lib.hid hTl; have HTC := Lib.hid hTc
  clear hTl hTc hTz
  go_enter Tryz.func3, Tryz.ntmps3
  go_wp2_with fail
  refine (shown18 w).mono ?_; rintro e w1 ⟨rfl, hb⟩
  have B1 := Lib.hid hb
  clear hb
  go_wp2_with fail
  refine (newF_any w1).mono ?_; rintro e w2 ⟨p, q, rfl, hF, hb, hp, hq⟩
  have B2 := Lib.hid (B1.out.step hb B1.out.size)
  have HF2 := Lib.hid hF
  have HP2 := Lib.hid (show w.heap.size ≤ p ∧ w.heap.size ≤ q from by have := B1.out.size; omega)
  clear hF hb hp hq
  by_cases h80 : 80 < n
  · have h81 : decide ((80 : Int) < n) = true := decide_eq_true (by omega)
    go_wp2_with fail
    go_ret
    exact ⟨rfl, B2.out⟩
  have h81 : decide ((80 : Int) < n) = false := decide_eq_false (by omega)
  go_upto_region 5 with (fail)
  obtain ⟨px, hpx⟩ : ∃ z, z = w2.heap.size := ⟨_, rfl⟩
  obtain ⟨w3, hw3⟩ : ∃ z, z = w2.alloc (.cells #[.string { data := #[] }, .bool false, .bool false] 28) := ⟨_, rfl⟩
  have HE3 := Lib.hid hw3; have HPX := Lib.hid hpx
  have hb3 : Below w2.heap.size w2 w3 := by rw [hw3]; exact (Below.refl _ _).alloc (Nat.le_refl _) _
  have B3 := Lib.hid (B2.out.step hb3 B2.out.size)
  have HF3 := Lib.hid (show FSt w3 p q (.slice none 0 0) (some ({ data := #[] }, false)) from FSt.grown (show FSt w2 p q (.slice none 0 0) (some ({ data := #[] }, false)) from HF2.out) hb3)
  have HD3 := Lib.hid (show DSt w3 px 0 (some ({ data := #[] }, false)) from by
    rw [hw3, hpx]
    exact heap_alloc_new w2 (.cells #[.string { data := #[] }, .bool false, .bool false] 28))
  have HPQ := Lib.hid (show w.heap.size ≤ px ∧ p ≠ px ∧ q ≠ px from by
    have h1 := HF2.out.cell.lt; have h2 := HF2.out.rd.lt; have h3 := B2.out.size
    omega)
  clear hw3 hpx hb3 h81
  go_upto_region 8 with (fail)
  rw [← HE3.out, ← HPX.out]
  go_loopw [6, 7] (fun lv iv wr => ∃ (j : Nat) (S : ByteArray) (L : List Ev) (st : Option (ByteArray × Bool)) (v : Value), iv = .int .i64 j ∧ j ≤ n ∧ lv = .int .i64 (8000 - (S.size : Int)) ∧ S.size ≤ 7999 ∧ FSt wr p q v st ∧ DSt wr px S.size st ∧ KTold S false L st ∧ Below w.heap.size w wr ∧ (∀ k, v.ownBlock = some k → w.heap.size ≤ k)) (fun _ iv _ => n - (RowKit.intOf iv).toNat)
  case atStart => exact ⟨0, { data := #[] }, [], _, _, rfl, Nat.zero_le _, rfl, by decide, HF3.out, HD3.out, ktold_nil0, B3.out, fun k hk => by simp [Value.ownBlock] at hk⟩
  case round =>
    obtain ⟨j, S, L, st, v, rfl, hj, rfl, hS, hF, hD, hK, hb, hv⟩ := hrel
    have HFW := Lib.hid hF; have HDW := Lib.hid hD; have HKW := Lib.hid hK; have BW := Lib.hid hb; have HVW := Lib.hid hv
    clear hF hD hK hb hv
    by_cases hlt : j < n
    · have hlt' : (j : Int) < n := by omega
      rcases HTC.out with h0 | ⟨g, off, rfl, hg, hc⟩
      · have := HTL.out; rw [h0] at this; simp at this; omega
      obtain ⟨t0, ht0⟩ : ∃ t0, T[j]? = some t0 := ⟨_, List.getElem?_eq_getElem (by rw [HTL.out]; exact hlt)⟩
      have c0 := (BW.out.cell (p := ⟨g, off + j, none⟩) hg).trans (hc j t0 ht0)
      obtain ⟨b0, hb0⟩ : ∃ z : ByteArray, z = ⟨t0.toArray⟩ := ⟨_, rfl⟩
      rw [← hb0] at c0
      have hz0 := HTZ.out t0 (List.mem_of_getElem? ht0)
      have hbz : b0.size = t0.length := by rw [hb0, bsize]
      rw [← hbz] at hz0
      have HCW := Lib.hid (show ∀ W : World, Below w.heap.size w W → W.cell? ⟨g, off + j, none⟩ = some (.string b0) from fun W h => (h.cell (p := ⟨g, off + j, none⟩) hg).trans (by rw [hb0]; exact hc j t0 ht0))
      clear hb0 ht0 hc hbz
      by_cases hbig : 8000 ≤ S.size + b0.size
      · have hbig' : (8000 : Int) - S.size - b0.size ≤ 0 := by omega
        go_wp2_with fail
        go_ret
        exact ⟨rfl, BW.out⟩
      · have hbig' : ¬ (8000 : Int) - S.size - b0.size ≤ 0 := by omega
        have HFE := Lib.hid (feed_ev p q v b0 S false L st wr HFW.out HKW.out (by omega))
        have hpxr := HDW.out.lt
        go_wp2_with fail
        refine HFE.out.mono ?_; rintro e wa ⟨tva, L2, st2, v2, rfl, hRA, hFA, hTA, hVA, hKA⟩
        have hap : st ≠ none → some px ≠ v.ownBlock := fun h => by
          cases st with
          | none => exact absurd rfl h
          | some r => exact HDW.out.apart (show FIs wr p q v r.1 r.2 from HFW.out).rd.own
        have HDA := Lib.hid (HDW.out.same (hTA.block px hpxr (fun e => HPQ.out.2.1 e.symm) (fun e => HPQ.out.2.2 e.symm) hap))
        have BA := Lib.hid (BW.out.trans (hTA.below BW.out.size (by have := HP2.out; omega) (by have := HP2.out; omega) HVW.out))
        have HVA := Lib.hid (show ∀ k, v2.ownBlock = some k → w.heap.size ≤ k from fun k hk => (hVA k hk).elim (fun h => HVW.out k h) (fun h => Nat.le_trans BW.out.size h))
        have HRA := Lib.hid hRA; have HFA := Lib.hid hFA; have HKA := Lib.hid hKA
        have HZA := Lib.hid hTA.size
        clear hRA hFA hTA hVA hKA hap c0
        have c0 := HCW.out wa BA.out
        have HFD := Lib.hid (feed18_st px b0 S false L st wa HDA.out HKW.out (by omega))
        go_wp2_with fail
        refine HFD.out.mono ?_; rintro e wb ⟨tvb, L3, st3, rfl, hRB, hDB, hTB, hKB⟩
        obtain ⟨hL, rfl⟩ := HKA.out.det hKB
        obtain rfl : L2 = L3 := List.append_cancel_left hL
        have HRB := Lib.hid hRB; have HDB' := Lib.hid hDB
        have hap : st2 ≠ none → some px ≠ v2.ownBlock := fun h => by
          cases st2 with
          | none => exact absurd rfl h
          | some r => exact HDA.out.apart (show FIs wa p q v2 r.1 r.2 from HFA.out).rd.own
        have HFB := Lib.hid (HFA.out.kept18 hTB HPQ.out.2.1 HPQ.out.2.2 hap)
        have HRA2 := Lib.hid (HRA.out.keep hTB.size (fun k hB hk => hTB.block k hk (by omega) (by simp)))
        have BB := Lib.hid (BA.out.trans (show Below w.heap.size wa wb from ⟨hTB.os, hTB.tape, hTB.output, hTB.size, fun k hk => hTB.block k (by have := BA.out.size; omega) (by have := HPQ.out; omega) (by simp)⟩))
        clear hRB hDB hTB hKB hL hap
        obtain ⟨aa, ca, rfl, hca, hra⟩ := ev_read5 HRA2.out
        obtain ⟨ab, cb, rfl, hcb, hrb⟩ := rev_read5 HRB.out
        have HXA := Lib.hid hra; have HXB := Lib.hid hrb
        have HOV := Lib.hid (fun W (h : FSt W p q v2 st2) => over_st p q v2 st2 W h)
        have x2 := HDB'.out.over
        clear hra hrb
        obtain ⟨ov, hov⟩ : ∃ z, z = overS st2 := ⟨_, rfl⟩
        rw [← hov] at x2 HOV
        have HOO := Lib.hid hov
        have HSS := Lib.hid (show ∀ W, Below wb.heap.size wb W → (W.cell? ⟨px, 2, none⟩ = some (.bool ov) ∧ FSt W p q v2 st2) ∧ Below wb.heap.size wb W from fun W hW => ⟨⟨(hW.cell (p := ⟨px, 2, none⟩) HDB'.out.lt).trans x2, HFB.out.grown hW⟩, hW⟩)
        have S0 := HSS.out wb (Below.refl _ _)
        have hll : ((L2.length : Int) != (L2.length : Int)) = false := by simp
        have hoo : (ov != ov) = false := by cases ov <;> rfl
        clear hov c0
        go_upto_region 15 with (fail)
        go_region_held3 (fun W => (W.cell? ⟨px, 2, none⟩ = some (.bool ov) ∧ FSt W p q v2 st2) ∧ Below wb.heap.size wb W) (first | exact S1 | exact HSS.out _ S0.2.drew | exact S0)
          (first | (go_at_call 8; refine (HOV.out _ (HSS.out _ S0.2.drew).1.2).mono ?_; rintro e wx ⟨rfl, rfl⟩; have S1 := HSS.out _ S0.2.drew))
        have HWB := Lib.hid (show Below wb.heap.size wb wb.drew from (Below.refl _ _).drew)
        clear S0 S1 x2 hll hoo
        go_wp2_with fail
        go_loopw [10] (fun kv wx => ∃ k : Nat, kv = .int .i64 k ∧ k ≤ L2.length ∧ Below wb.heap.size wb wx) (fun kv _ => L2.length - (RowKit.intOf kv).toNat)
        case atStart => exact ⟨0, rfl, Nat.zero_le _, HWB.out⟩
        case round =>
          obtain ⟨k, rfl, hk, hb⟩ := hrel
          have HBK := Lib.hid hb
          clear hb
          by_cases hkl : k < L2.length
          · have hkl' : (k : Int) < L2.length := by omega
            have HKL := Lib.hid hkl
            have hl2 : L2.length ≤ 8001 := by
              have h9 := HKA.out.size.1
              rw [List.length_append, ByteArray.size_append] at h9
              omega
            obtain ⟨E, hE⟩ : ∃ E, L2[k]? = some E := ⟨_, List.getElem?_eq_getElem hkl⟩
            have hne : ¬ L2 = [] := fun h => by rw [h] at hkl; simp at hkl
            obtain ⟨g1, rfl, _, hg1, hc1⟩ := HXA.out.resolve_left hne
            obtain ⟨g2, rfl, _, hg2, hc2⟩ := HXB.out.resolve_left hne
            obtain ⟨e1, m1, d1, a0, a1, a2, a3, a4, hN1⟩ := hc1 k E hE
            obtain ⟨e2, m2, d2, y0, y1, y2, y3, y4, hN2⟩ := hc2 k E hE
            obtain ⟨ke, hke⟩ : ∃ z : Int, z = (E.k.toNat : Nat) := ⟨_, rfl⟩
            obtain ⟨ub, hub⟩ : ∃ z : ByteArray, z = ⟨E.u.toArray⟩ := ⟨_, rfl⟩
            obtain ⟨db, hdb⟩ : ∃ z : ByteArray, z = ⟨E.d.toArray⟩ := ⟨_, rfl⟩
            obtain ⟨tb, htb⟩ : ∃ z : ByteArray, z = ⟨E.t.toArray⟩ := ⟨_, rfl⟩
            rw [← hke] at a0 y0
            rw [← hub] at a1 y1
            rw [← hdb] at a2 y2
            rw [← htb] at a3 y3
            have HN1 := Lib.hid (hN1.mono HBK.out); have HN2 := Lib.hid (hN2.mono HBK.out)
            have HSA := Lib.hid (show ∀ W, Below wr.heap.size wr W → Calls Tryz.prog 9 #[.agg #[.int .u8 ke, .string ub, .string db, .string tb, .slice e1 m1 d1], .agg #[.int .u8 ke, .string ub, .string db, .string tb, .slice e2 m2 d2]] W fun e w' => e = .returned (.bool true) ∧ Below W.heap.size W w' from fun W hW => same18_any W ke ub db tb E.n e1 e2 m1 m2 d1 d2 (HN1.out.mono hW) (HN2.out.mono hW))
            have HSS := Lib.hid (show ∀ W, Below wr.heap.size wr W → ((W.cell? ⟨g1, k * 5, none⟩ = some (.int .u8 ke) ∧ W.cell? ⟨g1, k * 5 + 1, none⟩ = some (.string ub) ∧ W.cell? ⟨g1, k * 5 + 2, none⟩ = some (.string db) ∧ W.cell? ⟨g1, k * 5 + 3, none⟩ = some (.string tb) ∧ W.cell? ⟨g1, k * 5 + 4, none⟩ = some (.slice e1 m1 d1)) ∧ (W.cell? ⟨g2, k * 5, none⟩ = some (.int .u8 ke) ∧ W.cell? ⟨g2, k * 5 + 1, none⟩ = some (.string ub) ∧ W.cell? ⟨g2, k * 5 + 2, none⟩ = some (.string db) ∧ W.cell? ⟨g2, k * 5 + 3, none⟩ = some (.string tb) ∧ W.cell? ⟨g2, k * 5 + 4, none⟩ = some (.slice e2 m2 d2))) ∧ Below wr.heap.size wr W from by
              intro W hW
              have hw2 : Below wb.heap.size wb W := HBK.out.trans (hW.mono HBK.out.size)
              have k1 : ∀ i, W.cell? ⟨g1, i, none⟩ = wb.cell? ⟨g1, i, none⟩ := fun i => hw2.cell (p := ⟨g1, i, none⟩) hg1
              have k2 : ∀ i, W.cell? ⟨g2, i, none⟩ = wb.cell? ⟨g2, i, none⟩ := fun i => hw2.cell (p := ⟨g2, i, none⟩) hg2
              exact ⟨⟨⟨(k1 _).trans a0, (k1 _).trans a1, (k1 _).trans a2, (k1 _).trans a3, (k1 _).trans a4⟩, (k2 _).trans y0, (k2 _).trans y1, (k2 _).trans y2, (k2 _).trans y3, (k2 _).trans y4⟩, hW⟩)
            have S0 := HSS.out wr (Below.refl _ _)
            clear a0 a1 a2 a3 a4 y0 y1 y2 y3 y4 hc1 hc2 hke hub hdb htb hN1 hN2 hE hne
            go_upto_region 20 with (fail)
            go_region_held3 (fun W => ((W.cell? ⟨g1, k * 5, none⟩ = some (.int .u8 ke) ∧ W.cell? ⟨g1, k * 5 + 1, none⟩ = some (.string ub) ∧ W.cell? ⟨g1, k * 5 + 2, none⟩ = some (.string db) ∧ W.cell? ⟨g1, k * 5 + 3, none⟩ = some (.string tb) ∧ W.cell? ⟨g1, k * 5 + 4, none⟩ = some (.slice e1 m1 d1)) ∧ (W.cell? ⟨g2, k * 5, none⟩ = some (.int .u8 ke) ∧ W.cell? ⟨g2, k * 5 + 1, none⟩ = some (.string ub) ∧ W.cell? ⟨g2, k * 5 + 2, none⟩ = some (.string db) ∧ W.cell? ⟨g2, k * 5 + 3, none⟩ = some (.string tb) ∧ W.cell? ⟨g2, k * 5 + 4, none⟩ = some (.slice e2 m2 d2))) ∧ Below wr.heap.size wr W) (first | exact S3 | exact S1 | exact ⟨S0.1, S0.2.drew⟩ | exact ⟨S1.1, S1.2.drew⟩)
              (first | (go_at_call 10; refine (as18_any _ _ _ _ _ _ _ _).mono ?_; rintro e w8 ⟨rfl, hb8⟩; have S1 := HSS.out w8 (S0.2.drew.step hb8 (by exact Nat.le_refl _))) | (go_at_call 9; refine (HSA.out _ S1.2).mono ?_; rintro e wx ⟨rfl, hbx⟩; have S3 := HSS.out wx (S1.2.step hbx S1.2.size)))
            have BX := Lib.hid (HBK.out.step S3.2 HBK.out.size)
            clear S0 S1 S3 hb8 hbx
            go_wp2_with fail
            go_roundw
            case measure => have := HKL.out; first | omega | (simp [RowKit.intOf]; omega)
            case rel => exact ⟨k + 1, by go_num, HKL.out, BX.out⟩
          · have hkg : ¬ (k : Int) < L2.length := by omega
            have hfin : (8000 : Int) - S.size - b0.size = 8000 - ((S ++ b0).size : Int) := by rw [ByteArray.size_append]; omega
            have HFI := Lib.hid hfin
            clear hfin hk hkl
            go_wp2_with fail
            go_roundw
            case measure => first | omega | (simp [RowKit.intOf]; omega)
            case rel =>
              exact ⟨j + 1, S ++ b0, L ++ L2, st2, v2, by go_num, by omega, by rw [HFI.out], by rw [ByteArray.size_append]; omega, HFB.out.grown HBK.out, by rw [ByteArray.size_append]; exact HDB'.out.same (HBK.out.block px HDB'.out.lt), HKA.out, BB.out.trans (HBK.out.mono BB.out.size), HVA.out⟩
    · have hge : ¬ (j : Int) < n := by omega
      go_wp2_with fail
      go_ret
      exact ⟨rfl, BW.out⟩
set_option maxRecDepth 100000 in
theorem plays_lifted (os : Os) (started : os.Started) (H : Type) (enc : TypeId × Value → H) :
    ReturnsInHanded {} Tryz.checked os 3 .any (fun w args => (Rows.frontPlaysSpec.pre enc Tryz.prog Tryz.f3 Rows.frontPlaysRow.domain false w args ∧ laidMetH Tryz.prog [("unicode/utf8.acceptRanges", Rows.laid_unicode_utf8_acceptRanges), ("unicode/utf8.first", Rows.laid_unicode_utf8_first)] w) ∧ sizedMet enc Tryz.prog Tryz.f3 (OpenSpec.ofChange Rows.frontPlaysSpec) false w args) (Rows.frontPlaysSpec.post enc Tryz.prog Tryz.f3 false true false false) := by
  refine handed_laid (C := Tryz.checked) (X := fun w _ => laidMetH Tryz.prog [("unicode/utf8.acceptRanges", Rows.laid_unicode_utf8_acceptRanges), ("unicode/utf8.first", Rows.laid_unicode_utf8_first)] w) (fun _ _ _ hh h => h.of_heap hh) own started (by kernel_rfl) Tryz.func3
    (ChangeSpec.witness_shaped (enc := enc) (C := Tryz.checked) (os := os) (X := fun w _ => laidMetH Tryz.prog [("unicode/utf8.acceptRanges", Rows.laid_unicode_utf8_acceptRanges), ("unicode/utf8.first", Rows.laid_unicode_utf8_first)] w) false (World.laidAll Tryz.prog os [("unicode/utf8.acceptRanges", Rows.laid_unicode_utf8_acceptRanges), ("unicode/utf8.first", Rows.laid_unicode_utf8_first)]) #[.slice none 0 0] 8 (World.laidAll_os _ _ _) (World.shaped_of_ZipB (by kernel_rfl) (by kernel_rfl)) (by kernel_rfl) (by kernel_rfl) (by kernel_rfl)
      (by rw [MakeChecks.laidMetH_plain _ _ _ (by kernel_rfl)]; exact laidMet_laidAll _ (by kernel_rfl) (by kernel_rfl))) ?_
  intro W base args ds gs before hval0 hW hsz0 _ _
  have hsz : (DataW.weightsEach Tryz.prog (Tryz.f3.params.toList ++ Rows.frontPlaysSpec.plain.varTypes Tryz.prog) (ds ++ gs)).all (· ≤ reachBytes) = true := hsz0
  clear hsz0
  have hval : ∀ (j : Nat) t v, Tryz.f3.params[j]? = some t → args[j]? = some v → Value.okWide Tryz.prog W .any base t v := hval0
  have hW' := hW
  obtain ⟨p, q, hA0, hV, rfl, _, _⟩ := hW
  have hA : DataW.TrodAll enc Tryz.prog W 0 (fun _ => true) true Tryz.f3.params.toList args.toList ds p := hA0
  rw [Tryz.params3] at hA hval hsz
  obtain ⟨v0, d0, rfl, rfl, h0⟩ := trodAll_one hA
  obtain ⟨rfl, rfl⟩ := trodVars_none hV
  obtain ⟨a0, len0, cap0, rfl⟩ := okWide_slice Tryz.underlying22 (hval 0 22 v0 rfl rfl)
  obtain ⟨fuel0, hf0⟩ := h0
  obtain ⟨T, hT0, hw1⟩ := open_textsIn (by simpa [Value.cells] using hf0)
  have hTz : ∀ t ∈ T, t.length ≤ 140737488351232 := fun t ht => of_decide_eq_true (List.all_eq_true.1 hsz _ (DataW.weights_mem_each (j := 0) (t := 22) rfl rfl _ (hw1 t ht)))
  refine (plays_walk _ T W hT0 hTz).mono fun e W' ⟨he, hb⟩ => ?_
  subst he
  exact ⟨_, rfl, law_shut laidOut (by kernel_rfl) (by kernel_rfl) Tryz.underlying4 rfl hW' rfl hb⟩

theorem plays_holds : Rows.FrontPlaysSaid :=
  OpenClaim.holds_of_wide 3 Tryz.f3 rfl rfl rfl rfl rfl rfl rfl ⟨rfl, rfl, rfl, rfl, rfl⟩ rfl rfl rfl rfl rfl (by kernel_rfl) Tryz.func3 (by kernel_rfl)
    (of_decide_eq_true (by kernel_rfl)) (by unfold Func.isWrapper; rw [if_neg (of_decide_eq_false (by kernel_rfl))]; exact ⟨rfl, rfl⟩)
    (fun os started H enc _ => plays_lifted os started H enc)

theorem plays_card : Rows.FrontPlaysCardSaid :=
  Claim7.holds_tied_plain_at .later [] [.data, .pinned] true _ false plays_holds (fun _ h => by cases h) (by kernel_rfl) (fun _ h => by cases h) frontPlays_row_tie rfl ⟨rfl, rfl⟩ (by kernel_rfl) rfl
    (fun f fn hf hfn => by
      obtain rfl : f = 3 := Option.some.inj ((show Tryz.prog.funcNamed "taxirank/taxiranklaw18.FrontPlays" = some 3 by kernel_rfl).symm.trans hf) |>.symm
      obtain rfl : fn = Tryz.f3 := (Option.some.inj (Tryz.func3.symm.trans hfn)).symm
      exact ⟨by kernel_rfl, fun j t ht => by
        rw [Tryz.params3] at ht
        have hm : t ∈ [22] := by simpa using Array.mem_of_getElem? ht
        have hall : ([22].all fun u => !Tryz.prog.wantsStandIn u) = true := by kernel_rfl
        exact (show Tryz.prog.wantsStandIn t = false by simpa using List.all_eq_true.1 hall t hm)⟩)
    (by kernel_rfl)
end Go.Proofs.YtmofnkinclckoaaGreatDoor
