/- Contracts and mathematics: QRKnown. -/
import Derived.Test.YtgopajddloeclaaDoorZ36
namespace Go.Proofs.YtgopajddloeclaaDoor
open Go.RowKit Go.Lib Go.WideShapes

theorem alone_drop {L : List Tok} {W : Bs} (h : beginsW L W = true) : aloneW L W = ((L.drop 1).length == 0) := by
  cases L with
  | nil => cases h
  | cons t r => unfold aloneW; rw [h]; cases r <;> rfl
theorem alone_not {L : List Tok} {W : Bs} (h : beginsW L W = false) : aloneW L W = false := by unfold aloneW; rw [h, Bool.and_false]
theorem start_drop {L : List Tok} (h : beginsW L w_transaction = true) : orNone (if aloneW L w_transaction then (⟨98, [], []⟩, (workW L).length == 0) else (noCmd, false)) = orNone (⟨98, [], []⟩, (L.drop 1).length == 0) := by
  rw [alone_drop h, show workW L = L.drop 1 from by unfold workW; rw [h, Bool.or_true]; rfl]
  cases hb : ((L.drop 1).length == 0) <;> rfl
set_option maxRecDepth 100000 in
set_option maxHeartbeats 32000000 in
theorem rknown_any (p : Nat) (X : ByteArray) (Y : Bs) (L : List Tok) (w : World) (hY : X.toList = Y) (h : RestAt w p L) :
    Calls Tryd.prog 28 #[.string X, .pointer (some ⟨p, 0, none⟩)] w (COut w p (orNone (commandC Y L))) := by
  obtain ⟨W0, hW0⟩ : ∃ x, x = w.alloc (.cells #[.int .u8 0, .string { data := #[] }, .string { data := #[] }] 31) := ⟨_, rfl⟩
  have hb0 : Below w.heap.size w W0 := by rw [hW0]; exact (Below.refl _ _).alloc (Nat.le_refl _) _
  have HE := Lib.hid hW0
  have HCM := Lib.hid (show CmdCell W0 w.heap.size from by rw [hW0]; exact heap_alloc_new w _)
  have HZ := Lib.hid (show p < w.heap.size ∧ W0.heap.size = w.heap.size + 1 from ⟨h.lt, by rw [hW0]; simp⟩)
  have HT0 := Lib.hid (show TurnedR w W0 p from TurnedR.below hb0)
  have HTZ := Lib.hid (TurnedR.refl W0 p)
  have HR0 := Lib.hid (h.grown hb0)
  obtain ⟨C, hC⟩ : ∃ C, C = orNone (commandC Y L) := ⟨_, rfl⟩
  have HC := Lib.hid hC
  rw [← hC]
  clear h hb0 hW0 hC
  by_cases y0 : Y = w_set
  · subst y0
    have HC2 := Lib.hid (show C = orNone (setC L) from by rw [HC.out]; unfold commandC; rw [if_pos rfl])
    have q0 : (X.toList == [115, 101, 116]) = true := by rw [hY]; rfl
    have q1 : (X.toList == [114, 101, 115, 101, 116]) = false := by rw [hY]; rfl
    have q2 : (X.toList == [100, 105, 115, 99, 97, 114, 100]) = false := by rw [hY]; rfl
    have q3 : (X.toList == [115, 116, 97, 114, 116]) = false := by rw [hY]; rfl
    have q4 : (X.toList == [98, 101, 103, 105, 110]) = false := by rw [hY]; rfl
    have q5 : (X.toList == [101, 110, 100]) = false := by rw [hY]; rfl
    have q6 : (X.toList == [99, 111, 109, 109, 105, 116]) = false := by rw [hY]; rfl
    have q7 : (X.toList == [97, 98, 111, 114, 116]) = false := by rw [hY]; rfl
    have q8 : (X.toList == [114, 111, 108, 108, 98, 97, 99, 107]) = false := by rw [hY]; rfl
    have q9 : (X.toList == [115, 97, 118, 101, 112, 111, 105, 110, 116]) = false := by rw [hY]; rfl
    have q10 : (X.toList == [114, 101, 108, 101, 97, 115, 101]) = false := by rw [hY]; rfl
    have q11 : (X.toList == [115, 104, 111, 119]) = false := by rw [hY]; rfl
    clear hY HC
    go_enter Tryd.func28, Tryd.ntmps28
    obtain ⟨ck, cn, cv⟩ := C
    have HX := Lib.hid (show Calls Tryd.prog 47 #[.pointer (some ⟨p, 0, none⟩)] W0 (fun e w' => e = .returned (.agg #[.int .u8 (ck.toNat : Nat), .string ⟨cn.toArray⟩, .string ⟨cv.toArray⟩]) ∧ TurnedR W0 w' p) from by
      have h1 := rset_any p L W0 HR0.out
      rw [show orNone (setC L) = ⟨ck, cn, cv⟩ from HC2.out.symm] at h1
      exact h1)
    go_wp2_with fail
    rw [← HE.out]
    refine HX.out.mono ?_; rintro e w5 ⟨rfl, hT5⟩
    have HT5 := Lib.hid (HTZ.out.trans hT5)
    clear hT5 HX
    have hcm : CmdCell w5 w.heap.size := (HT5.out.block w.heap.size (by rw [HZ.out.2]; omega) (by have := HZ.out.1; omega)).trans HCM.out
    obtain ⟨⟨k0, k1, k2⟩, ⟨f0, f1, f2⟩⟩ := hcm.cell
    clear hcm
    go_wp2_with fail
    simp [bodyPost, results, Tryd.results28, go_sem, k0, k1, k2]
    refine ⟨by first | rfl | (rw [HCN.out]; rfl) | (rw [HCN.out, HXT.out]; rfl), ?_⟩
    exact (((HT0.out.trans HT5.out).off _ _ (Nat.le_refl _)).off _ _ (Nat.le_refl _)).off _ _ (Nat.le_refl _)
  by_cases y1 : Y = w_reset
  · subst y1
    have HC2 := Lib.hid (show C = orNone (if aloneW L w_all then (⟨97, [], []⟩, true) else namedC 114 L) from by rw [HC.out]; unfold commandC; rw [if_neg (by decide), if_pos rfl])
    have q0 : (X.toList == [115, 101, 116]) = false := by rw [hY]; rfl
    have q1 : (X.toList == [114, 101, 115, 101, 116]) = true := by rw [hY]; rfl
    have q2 : (X.toList == [100, 105, 115, 99, 97, 114, 100]) = false := by rw [hY]; rfl
    have q3 : (X.toList == [115, 116, 97, 114, 116]) = false := by rw [hY]; rfl
    have q4 : (X.toList == [98, 101, 103, 105, 110]) = false := by rw [hY]; rfl
    have q5 : (X.toList == [101, 110, 100]) = false := by rw [hY]; rfl
    have q6 : (X.toList == [99, 111, 109, 109, 105, 116]) = false := by rw [hY]; rfl
    have q7 : (X.toList == [97, 98, 111, 114, 116]) = false := by rw [hY]; rfl
    have q8 : (X.toList == [114, 111, 108, 108, 98, 97, 99, 107]) = false := by rw [hY]; rfl
    have q9 : (X.toList == [115, 97, 118, 101, 112, 111, 105, 110, 116]) = false := by rw [hY]; rfl
    have q10 : (X.toList == [114, 101, 108, 101, 97, 115, 101]) = false := by rw [hY]; rfl
    have q11 : (X.toList == [115, 104, 111, 119]) = false := by rw [hY]; rfl
    clear hY HC
    go_enter Tryd.func28, Tryd.ntmps28
    obtain ⟨a0, c, hCC, _⟩ := HR0.out
    have c0 := hCC.cell
    clear hCC
    have HC0 := Lib.hid (show W0.cell? ⟨p, 0, none⟩ = some (.slice a0 L.length c) from c0)
    obtain ⟨n, hn⟩ : ∃ n, n = L.length := ⟨_, rfl⟩
    have HN := Lib.hid hn
    rw [← hn] at c0
    clear hn
    by_cases hl : n = 1
    · have hl2 : ((n : Int) == 1) = true := by rw [hl]; rfl
      have HAL := Lib.hid (show aloneW L w_all = beginsW L w_all from by unfold aloneW; rw [← HN.out, hl]; rfl)
      go_upto_region 5 with (fail)
      rw [← HE.out]
      have HWD := Lib.hid (rword_any p { data := #[97, 108, 108] } L W0 HR0.out)
      rw [show bytes { data := #[97, 108, 108] } = w_all from rfl] at HWD
      go_wp2_with fail
      refine HWD.out.mono ?_; rintro e w1 ⟨rfl, hR1, hT1⟩
      have HT1 := Lib.hid (HTZ.out.trans hT1)
      clear hT1 HWD
      cases hb : beginsW L w_all with
      | true =>
        have HR1 := Lib.hid (show RestAt w1 p (L.drop 1) from by unfold wordR at hR1; rw [if_pos hb] at hR1; exact hR1)
        have HB := Lib.hid hb
        clear hb hR1
        have HCN := Lib.hid (show C = ⟨97, [], []⟩ from by rw [HC2.out, HAL.out, HB.out]; rfl)
        have hcm : CmdCell w1 w.heap.size := (HT1.out.block w.heap.size (by rw [HZ.out.2]; omega) (by have := HZ.out.1; omega)).trans HCM.out
        obtain ⟨⟨k0, k1, k2⟩, ⟨f0, f1, f2⟩⟩ := hcm.cell
        clear hcm
        go_wp2_with fail
        simp [bodyPost, results, Tryd.results28, go_sem, k0, k1, k2]
        refine ⟨by first | rfl | (rw [HCN.out]; rfl) | (rw [HCN.out, HXT.out]; rfl), ?_⟩
        exact (((HT0.out.trans HT1.out).off _ _ (Nat.le_refl _)).off _ _ (Nat.le_refl _)).off _ _ (Nat.le_refl _)
      | false =>
        have HR1 := Lib.hid (show RestAt w1 p L from by unfold wordR at hR1; rw [if_neg (by rw [hb]; decide)] at hR1; exact hR1)
        have HB := Lib.hid hb
        clear hb hR1
        have HC2 := Lib.hid (show C = orNone (namedC 114 L) from by rw [HC2.out, HAL.out, HB.out]; rfl)
        have HNM := Lib.hid (rname_any p L w1 HR1.out)
        have HTC := Lib.hid (takeB_cases L)
        have hkl := takeB_le L
        obtain ⟨q, hq⟩ : ∃ q, q = takeB L := ⟨_, rfl⟩
        have HC3 := Lib.hid (show C = orNone (⟨114, q.1, []⟩, decide (0 < q.2) && q.2 == L.length) from by rw [HC2.out, hq]; rfl)
        rw [← hq] at HNM HTC hkl
        obtain ⟨x, k⟩ := q
        have HKL := Lib.hid (show k ≤ L.length from hkl)
        obtain ⟨XT, hXT⟩ : ∃ z : ByteArray, z = ⟨x.toArray⟩ := ⟨_, rfl⟩
        have HXT := Lib.hid hXT
        rw [← hXT] at HNM
        have HXL := Lib.hid (show XT.toList = x from by rw [hXT]; exact str_list _)
        clear hq hXT hkl
        go_wp2_with fail
        refine HNM.out.mono ?_; rintro e w5 ⟨rfl, hR5, hT5⟩
        have HT5 := Lib.hid (HT1.out.trans hT5)
        have HR5 := Lib.hid (show RestAt w5 p (L.drop k) from hR5)
        clear hR5 hT5 HNM
        cases hx : (x == []) with
        | true =>
          have ex : x = [] := by simpa using hx
          have r1 : (XT.toList == []) = true := by rw [HXL.out, ex]; rfl
          have r2 : XT.toList.isEmpty = true := by rw [HXL.out, ex]; rfl
          have HCN := Lib.hid (show C = noCmd from by
            rcases HTC.out with h | ⟨y, n, h, hg, h0⟩
            · have e0 : k = 0 := by cases h; rfl
              rw [HC3.out, e0]; rfl
            · have e0 : x = y := by cases h; rfl
              rw [← e0, ex] at hg; exact absurd hg (by decide))
          have hcm : CmdCell w5 w.heap.size := (HT5.out.block w.heap.size (by rw [HZ.out.2]; omega) (by have := HZ.out.1; omega)).trans HCM.out
          obtain ⟨⟨k0, k1, k2⟩, ⟨f0, f1, f2⟩⟩ := hcm.cell
          clear hcm
          clear hx ex
          go_wp2_with fail
          simp [bodyPost, results, Tryd.results28, go_sem, k0, k1, k2]
          refine ⟨by first | rfl | (rw [HCN.out]; rfl) | (rw [HCN.out, HXT.out]; rfl), ?_⟩
          exact (((HT0.out.trans HT5.out).off _ _ (Nat.le_refl _)).off _ _ (Nat.le_refl _)).off _ _ (Nat.le_refl _)
        | false =>
          have r1 : (XT.toList == []) = false := by rw [HXL.out]; exact hx
          have r2 : XT.toList.isEmpty = false := by rw [HXL.out]; cases x with
            | nil => cases hx
            | cons _ _ => rfl
          have HK0 := Lib.hid (show ¬ k = 0 from by
            rcases HTC.out with h | ⟨y, n, h, hg, h0⟩
            · cases h; cases hx
            · cases h; exact h0)
          obtain ⟨a, c, hCC, _⟩ := HR5.out
          have c0 := hCC.cell
          obtain ⟨m, hm⟩ : ∃ m, m = (L.drop k).length := ⟨_, rfl⟩
          rw [← hm] at c0
          have HM := Lib.hid (show m = L.length - k from by rw [hm, List.length_drop])
          clear hx hCC hm
          cases m with
          | zero =>
            have HCN := Lib.hid (show C = ⟨114, x, []⟩ from by
              have e0 : k = L.length := by have := HM.out; have := HKL.out; omega
              have e1 : (decide (0 < k) && k == L.length) = true := by rw [← e0]; have := HK0.out; simp; omega
              rw [HC3.out]
              show orNone (⟨114, x, []⟩, decide (0 < k) && k == L.length) = _
              rw [e1]; rfl)
            have hcm : CmdCell w5 w.heap.size := (HT5.out.block w.heap.size (by rw [HZ.out.2]; omega) (by have := HZ.out.1; omega)).trans HCM.out
            obtain ⟨⟨k0, k1, k2⟩, ⟨f0, f1, f2⟩⟩ := hcm.cell
            clear hcm
            go_wp2_with fail
            simp [bodyPost, results, Tryd.results28, go_sem, k0, k1, k2]
            refine ⟨by first | rfl | (rw [HCN.out]; rfl) | (rw [HCN.out, HXT.out]; rfl), ?_⟩
            exact (((HT0.out.trans HT5.out).off _ _ (Nat.le_refl _)).off _ _ (Nat.le_refl _)).off _ _ (Nat.le_refl _)
          | succ m =>
            have hm : (0 : Int) < ((m + 1 : Nat) : Int) := by omega
            have HCN := Lib.hid (show C = noCmd from by
              have e1 : (decide (0 < k) && k == L.length) = false := by
                have e2 : (k == L.length) = false := by rw [beq_eq_false_iff_ne]; have := HM.out; omega
                rw [e2, Bool.and_false]
              rw [HC3.out]
              show orNone (⟨114, x, []⟩, decide (0 < k) && k == L.length) = _
              rw [e1]; rfl)
            have hcm : CmdCell w5 w.heap.size := (HT5.out.block w.heap.size (by rw [HZ.out.2]; omega) (by have := HZ.out.1; omega)).trans HCM.out
            obtain ⟨⟨k0, k1, k2⟩, ⟨f0, f1, f2⟩⟩ := hcm.cell
            clear hcm
            go_wp2_with fail
            simp [bodyPost, results, Tryd.results28, go_sem, k0, k1, k2]
            refine ⟨by first | rfl | (rw [HCN.out]; rfl) | (rw [HCN.out, HXT.out]; rfl), ?_⟩
            exact (((HT0.out.trans HT5.out).off _ _ (Nat.le_refl _)).off _ _ (Nat.le_refl _)).off _ _ (Nat.le_refl _)
    · have hl2 : ((n : Int) == 1) = false := by rw [beq_eq_false_iff_ne]; omega
      have HC2 := Lib.hid (show C = orNone (namedC 114 L) from by
        rw [HC2.out, show aloneW L w_all = false from by unfold aloneW; rw [← HN.out, beq_eq_false_iff_ne.2 hl]; rfl]; rfl)
      go_upto_region 5 with (fail)
      rw [← HE.out]
      have HNM := Lib.hid (rname_any p L W0 HR0.out)
      have HTC := Lib.hid (takeB_cases L)
      have hkl := takeB_le L
      obtain ⟨q, hq⟩ : ∃ q, q = takeB L := ⟨_, rfl⟩
      have HC3 := Lib.hid (show C = orNone (⟨114, q.1, []⟩, decide (0 < q.2) && q.2 == L.length) from by rw [HC2.out, hq]; rfl)
      rw [← hq] at HNM HTC hkl
      obtain ⟨x, k⟩ := q
      have HKL := Lib.hid (show k ≤ L.length from hkl)
      obtain ⟨XT, hXT⟩ : ∃ z : ByteArray, z = ⟨x.toArray⟩ := ⟨_, rfl⟩
      have HXT := Lib.hid hXT
      rw [← hXT] at HNM
      have HXL := Lib.hid (show XT.toList = x from by rw [hXT]; exact str_list _)
      clear hq hXT hkl
      go_wp2_with fail
      refine HNM.out.mono ?_; rintro e w5 ⟨rfl, hR5, hT5⟩
      have HT5 := Lib.hid (HTZ.out.trans hT5)
      have HR5 := Lib.hid (show RestAt w5 p (L.drop k) from hR5)
      clear hR5 hT5 HNM
      cases hx : (x == []) with
      | true =>
        have ex : x = [] := by simpa using hx
        have r1 : (XT.toList == []) = true := by rw [HXL.out, ex]; rfl
        have r2 : XT.toList.isEmpty = true := by rw [HXL.out, ex]; rfl
        have HCN := Lib.hid (show C = noCmd from by
          rcases HTC.out with h | ⟨y, n, h, hg, h0⟩
          · have e0 : k = 0 := by cases h; rfl
            rw [HC3.out, e0]; rfl
          · have e0 : x = y := by cases h; rfl
            rw [← e0, ex] at hg; exact absurd hg (by decide))
        have hcm : CmdCell w5 w.heap.size := (HT5.out.block w.heap.size (by rw [HZ.out.2]; omega) (by have := HZ.out.1; omega)).trans HCM.out
        obtain ⟨⟨k0, k1, k2⟩, ⟨f0, f1, f2⟩⟩ := hcm.cell
        clear hcm
        clear hx ex
        go_wp2_with fail
        simp [bodyPost, results, Tryd.results28, go_sem, k0, k1, k2]
        refine ⟨by first | rfl | (rw [HCN.out]; rfl) | (rw [HCN.out, HXT.out]; rfl), ?_⟩
        exact (((HT0.out.trans HT5.out).off _ _ (Nat.le_refl _)).off _ _ (Nat.le_refl _)).off _ _ (Nat.le_refl _)
      | false =>
        have r1 : (XT.toList == []) = false := by rw [HXL.out]; exact hx
        have r2 : XT.toList.isEmpty = false := by rw [HXL.out]; cases x with
          | nil => cases hx
          | cons _ _ => rfl
        have HK0 := Lib.hid (show ¬ k = 0 from by
          rcases HTC.out with h | ⟨y, n, h, hg, h0⟩
          · cases h; cases hx
          · cases h; exact h0)
        obtain ⟨a, c, hCC, _⟩ := HR5.out
        have c0 := hCC.cell
        obtain ⟨m, hm⟩ : ∃ m, m = (L.drop k).length := ⟨_, rfl⟩
        rw [← hm] at c0
        have HM := Lib.hid (show m = L.length - k from by rw [hm, List.length_drop])
        clear hx hCC hm
        cases m with
        | zero =>
          have HCN := Lib.hid (show C = ⟨114, x, []⟩ from by
            have e0 : k = L.length := by have := HM.out; have := HKL.out; omega
            have e1 : (decide (0 < k) && k == L.length) = true := by rw [← e0]; have := HK0.out; simp; omega
            rw [HC3.out]
            show orNone (⟨114, x, []⟩, decide (0 < k) && k == L.length) = _
            rw [e1]; rfl)
          have hcm : CmdCell w5 w.heap.size := (HT5.out.block w.heap.size (by rw [HZ.out.2]; omega) (by have := HZ.out.1; omega)).trans HCM.out
          obtain ⟨⟨k0, k1, k2⟩, ⟨f0, f1, f2⟩⟩ := hcm.cell
          clear hcm
          go_wp2_with fail
          simp [bodyPost, results, Tryd.results28, go_sem, k0, k1, k2]
          refine ⟨by first | rfl | (rw [HCN.out]; rfl) | (rw [HCN.out, HXT.out]; rfl), ?_⟩
          exact (((HT0.out.trans HT5.out).off _ _ (Nat.le_refl _)).off _ _ (Nat.le_refl _)).off _ _ (Nat.le_refl _)
        | succ m =>
          have hm : (0 : Int) < ((m + 1 : Nat) : Int) := by omega
          have HCN := Lib.hid (show C = noCmd from by
            have e1 : (decide (0 < k) && k == L.length) = false := by
              have e2 : (k == L.length) = false := by rw [beq_eq_false_iff_ne]; have := HM.out; omega
              rw [e2, Bool.and_false]
            rw [HC3.out]
            show orNone (⟨114, x, []⟩, decide (0 < k) && k == L.length) = _
            rw [e1]; rfl)
          have hcm : CmdCell w5 w.heap.size := (HT5.out.block w.heap.size (by rw [HZ.out.2]; omega) (by have := HZ.out.1; omega)).trans HCM.out
          obtain ⟨⟨k0, k1, k2⟩, ⟨f0, f1, f2⟩⟩ := hcm.cell
          clear hcm
          go_wp2_with fail
          simp [bodyPost, results, Tryd.results28, go_sem, k0, k1, k2]
          refine ⟨by first | rfl | (rw [HCN.out]; rfl) | (rw [HCN.out, HXT.out]; rfl), ?_⟩
          exact (((HT0.out.trans HT5.out).off _ _ (Nat.le_refl _)).off _ _ (Nat.le_refl _)).off _ _ (Nat.le_refl _)
  by_cases y2 : Y = w_discard
  · subst y2
    have HC2 := Lib.hid (show C = orNone ((⟨120, [], []⟩, aloneW L w_all)) from by rw [HC.out]; unfold commandC; rw [if_neg (by decide), if_neg (by decide), if_pos rfl])
    have q0 : (X.toList == [115, 101, 116]) = false := by rw [hY]; rfl
    have q1 : (X.toList == [114, 101, 115, 101, 116]) = false := by rw [hY]; rfl
    have q2 : (X.toList == [100, 105, 115, 99, 97, 114, 100]) = true := by rw [hY]; rfl
    have q3 : (X.toList == [115, 116, 97, 114, 116]) = false := by rw [hY]; rfl
    have q4 : (X.toList == [98, 101, 103, 105, 110]) = false := by rw [hY]; rfl
    have q5 : (X.toList == [101, 110, 100]) = false := by rw [hY]; rfl
    have q6 : (X.toList == [99, 111, 109, 109, 105, 116]) = false := by rw [hY]; rfl
    have q7 : (X.toList == [97, 98, 111, 114, 116]) = false := by rw [hY]; rfl
    have q8 : (X.toList == [114, 111, 108, 108, 98, 97, 99, 107]) = false := by rw [hY]; rfl
    have q9 : (X.toList == [115, 97, 118, 101, 112, 111, 105, 110, 116]) = false := by rw [hY]; rfl
    have q10 : (X.toList == [114, 101, 108, 101, 97, 115, 101]) = false := by rw [hY]; rfl
    have q11 : (X.toList == [115, 104, 111, 119]) = false := by rw [hY]; rfl
    clear hY HC
    go_enter Tryd.func28, Tryd.ntmps28
    have HWD := Lib.hid (rword_any p { data := #[97, 108, 108] } L W0 HR0.out)
    rw [show bytes { data := #[97, 108, 108] } = w_all from rfl] at HWD
    go_wp2_with fail
    rw [← HE.out]
    refine HWD.out.mono ?_; rintro e w1 ⟨rfl, hR1, hT1⟩
    have HT1 := Lib.hid (HTZ.out.trans hT1)
    clear hT1 HWD
    cases hb : beginsW L w_all with
    | true =>
      have HR1 := Lib.hid (show RestAt w1 p (L.drop 1) from by unfold wordR at hR1; rw [if_pos hb] at hR1; exact hR1)
      have HB := Lib.hid hb
      clear hb hR1
      obtain ⟨ck, cn, cv⟩ := C
      have HX := Lib.hid (show Calls Tryd.prog 50 #[.pointer (some ⟨p, 0, none⟩), .int .u8 120] w1 (fun e w' => e = .returned (.agg #[.int .u8 (ck.toNat : Nat), .string ⟨cn.toArray⟩, .string ⟨cv.toArray⟩]) ∧ TurnedR w1 w' p) from by
        have h1 := rends_any p 120 (L.drop 1) w1 HR1.out
        rw [show orNone (⟨120, [], []⟩, (L.drop 1).length == 0) = ⟨ck, cn, cv⟩ from by rw [← alone_drop HB.out]; exact HC2.out.symm] at h1
        exact h1)
      go_wp2_with fail
      refine HX.out.mono ?_; rintro e w5 ⟨rfl, hT5⟩
      have HT5 := Lib.hid (HT1.out.trans hT5)
      clear hT5 HX
      have hcm : CmdCell w5 w.heap.size := (HT5.out.block w.heap.size (by rw [HZ.out.2]; omega) (by have := HZ.out.1; omega)).trans HCM.out
      obtain ⟨⟨k0, k1, k2⟩, ⟨f0, f1, f2⟩⟩ := hcm.cell
      clear hcm
      go_wp2_with fail
      simp [bodyPost, results, Tryd.results28, go_sem, k0, k1, k2]
      refine ⟨by first | rfl | (rw [HCN.out]; rfl) | (rw [HCN.out, HXT.out]; rfl), ?_⟩
      exact (((HT0.out.trans HT5.out).off _ _ (Nat.le_refl _)).off _ _ (Nat.le_refl _)).off _ _ (Nat.le_refl _)
    | false =>
      have HR1 := Lib.hid (show RestAt w1 p L from by unfold wordR at hR1; rw [if_neg (by rw [hb]; decide)] at hR1; exact hR1)
      have HB := Lib.hid hb
      clear hb hR1
      have HCN := Lib.hid (show C = noCmd from by rw [HC2.out, alone_not HB.out]; rfl)
      have hcm : CmdCell w1 w.heap.size := (HT1.out.block w.heap.size (by rw [HZ.out.2]; omega) (by have := HZ.out.1; omega)).trans HCM.out
      obtain ⟨⟨k0, k1, k2⟩, ⟨f0, f1, f2⟩⟩ := hcm.cell
      clear hcm
      go_wp2_with fail
      simp [bodyPost, results, Tryd.results28, go_sem, k0, k1, k2]
      refine ⟨by first | rfl | (rw [HCN.out]; rfl) | (rw [HCN.out, HXT.out]; rfl), ?_⟩
      exact (((HT0.out.trans HT1.out).off _ _ (Nat.le_refl _)).off _ _ (Nat.le_refl _)).off _ _ (Nat.le_refl _)
  by_cases y3 : Y = w_start
  · subst y3
    have HC2 := Lib.hid (show C = orNone (if aloneW L w_transaction then (⟨98, [], []⟩, (workW L).length == 0) else (noCmd, false)) from by rw [HC.out]; unfold commandC; rw [if_neg (by decide), if_neg (by decide), if_neg (by decide), if_pos rfl])
    have q0 : (X.toList == [115, 101, 116]) = false := by rw [hY]; rfl
    have q1 : (X.toList == [114, 101, 115, 101, 116]) = false := by rw [hY]; rfl
    have q2 : (X.toList == [100, 105, 115, 99, 97, 114, 100]) = false := by rw [hY]; rfl
    have q3 : (X.toList == [115, 116, 97, 114, 116]) = true := by rw [hY]; rfl
    have q4 : (X.toList == [98, 101, 103, 105, 110]) = false := by rw [hY]; rfl
    have q5 : (X.toList == [101, 110, 100]) = false := by rw [hY]; rfl
    have q6 : (X.toList == [99, 111, 109, 109, 105, 116]) = false := by rw [hY]; rfl
    have q7 : (X.toList == [97, 98, 111, 114, 116]) = false := by rw [hY]; rfl
    have q8 : (X.toList == [114, 111, 108, 108, 98, 97, 99, 107]) = false := by rw [hY]; rfl
    have q9 : (X.toList == [115, 97, 118, 101, 112, 111, 105, 110, 116]) = false := by rw [hY]; rfl
    have q10 : (X.toList == [114, 101, 108, 101, 97, 115, 101]) = false := by rw [hY]; rfl
    have q11 : (X.toList == [115, 104, 111, 119]) = false := by rw [hY]; rfl
    clear hY HC
    go_enter Tryd.func28, Tryd.ntmps28
    have HWD := Lib.hid (rword_any p { data := #[116, 114, 97, 110, 115, 97, 99, 116, 105, 111, 110] } L W0 HR0.out)
    rw [show bytes { data := #[116, 114, 97, 110, 115, 97, 99, 116, 105, 111, 110] } = w_transaction from rfl] at HWD
    go_wp2_with fail
    rw [← HE.out]
    refine HWD.out.mono ?_; rintro e w1 ⟨rfl, hR1, hT1⟩
    have HT1 := Lib.hid (HTZ.out.trans hT1)
    clear hT1 HWD
    cases hb : beginsW L w_transaction with
    | true =>
      have HR1 := Lib.hid (show RestAt w1 p (L.drop 1) from by unfold wordR at hR1; rw [if_pos hb] at hR1; exact hR1)
      have HB := Lib.hid hb
      clear hb hR1
      obtain ⟨ck, cn, cv⟩ := C
      have HX := Lib.hid (show Calls Tryd.prog 50 #[.pointer (some ⟨p, 0, none⟩), .int .u8 98] w1 (fun e w' => e = .returned (.agg #[.int .u8 (ck.toNat : Nat), .string ⟨cn.toArray⟩, .string ⟨cv.toArray⟩]) ∧ TurnedR w1 w' p) from by
        have h1 := rends_any p 98 (L.drop 1) w1 HR1.out
        rw [show orNone (⟨98, [], []⟩, (L.drop 1).length == 0) = ⟨ck, cn, cv⟩ from by rw [← start_drop HB.out]; exact HC2.out.symm] at h1
        exact h1)
      go_wp2_with fail
      refine HX.out.mono ?_; rintro e w5 ⟨rfl, hT5⟩
      have HT5 := Lib.hid (HT1.out.trans hT5)
      clear hT5 HX
      have hcm : CmdCell w5 w.heap.size := (HT5.out.block w.heap.size (by rw [HZ.out.2]; omega) (by have := HZ.out.1; omega)).trans HCM.out
      obtain ⟨⟨k0, k1, k2⟩, ⟨f0, f1, f2⟩⟩ := hcm.cell
      clear hcm
      go_wp2_with fail
      simp [bodyPost, results, Tryd.results28, go_sem, k0, k1, k2]
      refine ⟨by first | rfl | (rw [HCN.out]; rfl) | (rw [HCN.out, HXT.out]; rfl), ?_⟩
      exact (((HT0.out.trans HT5.out).off _ _ (Nat.le_refl _)).off _ _ (Nat.le_refl _)).off _ _ (Nat.le_refl _)
    | false =>
      have HR1 := Lib.hid (show RestAt w1 p L from by unfold wordR at hR1; rw [if_neg (by rw [hb]; decide)] at hR1; exact hR1)
      have HB := Lib.hid hb
      clear hb hR1
      have HCN := Lib.hid (show C = noCmd from by rw [HC2.out, alone_not HB.out]; rfl)
      have hcm : CmdCell w1 w.heap.size := (HT1.out.block w.heap.size (by rw [HZ.out.2]; omega) (by have := HZ.out.1; omega)).trans HCM.out
      obtain ⟨⟨k0, k1, k2⟩, ⟨f0, f1, f2⟩⟩ := hcm.cell
      clear hcm
      go_wp2_with fail
      simp [bodyPost, results, Tryd.results28, go_sem, k0, k1, k2]
      refine ⟨by first | rfl | (rw [HCN.out]; rfl) | (rw [HCN.out, HXT.out]; rfl), ?_⟩
      exact (((HT0.out.trans HT1.out).off _ _ (Nat.le_refl _)).off _ _ (Nat.le_refl _)).off _ _ (Nat.le_refl _)
  by_cases y4 : Y = w_begin
  · subst y4
    have HC2 := Lib.hid (show C = orNone ((⟨98, [], []⟩, (workW L).length == 0)) from by rw [HC.out]; unfold commandC; rw [if_neg (by decide), if_neg (by decide), if_neg (by decide), if_neg (by decide), if_pos rfl])
    have q0 : (X.toList == [115, 101, 116]) = false := by rw [hY]; rfl
    have q1 : (X.toList == [114, 101, 115, 101, 116]) = false := by rw [hY]; rfl
    have q2 : (X.toList == [100, 105, 115, 99, 97, 114, 100]) = false := by rw [hY]; rfl
    have q3 : (X.toList == [115, 116, 97, 114, 116]) = false := by rw [hY]; rfl
    have q4 : (X.toList == [98, 101, 103, 105, 110]) = true := by rw [hY]; rfl
    have q5 : (X.toList == [101, 110, 100]) = false := by rw [hY]; rfl
    have q6 : (X.toList == [99, 111, 109, 109, 105, 116]) = false := by rw [hY]; rfl
    have q7 : (X.toList == [97, 98, 111, 114, 116]) = false := by rw [hY]; rfl
    have q8 : (X.toList == [114, 111, 108, 108, 98, 97, 99, 107]) = false := by rw [hY]; rfl
    have q9 : (X.toList == [115, 97, 118, 101, 112, 111, 105, 110, 116]) = false := by rw [hY]; rfl
    have q10 : (X.toList == [114, 101, 108, 101, 97, 115, 101]) = false := by rw [hY]; rfl
    have q11 : (X.toList == [115, 104, 111, 119]) = false := by rw [hY]; rfl
    clear hY HC
    go_enter Tryd.func28, Tryd.ntmps28
    have HWK := Lib.hid (rwork_any p L W0 HR0.out)
    obtain ⟨L1, hL1⟩ : ∃ z, z = workW L := ⟨_, rfl⟩
    rw [← hL1] at HWK HC2
    clear hL1
    go_wp2_with fail
    rw [← HE.out]
    refine HWK.out.mono ?_; rintro e w1 ⟨rfl, hR1, hT1⟩
    have HT1 := Lib.hid hT1
    have HR1 := Lib.hid hR1
    clear hR1 hT1 HWK
    obtain ⟨ck, cn, cv⟩ := C
    have HX := Lib.hid (show Calls Tryd.prog 50 #[.pointer (some ⟨p, 0, none⟩), .int .u8 98] w1 (fun e w' => e = .returned (.agg #[.int .u8 (ck.toNat : Nat), .string ⟨cn.toArray⟩, .string ⟨cv.toArray⟩]) ∧ TurnedR w1 w' p) from by
      have h1 := rends_any p 98 L1 w1 HR1.out
      rw [show orNone (⟨98, [], []⟩, L1.length == 0) = ⟨ck, cn, cv⟩ from HC2.out.symm] at h1
      exact h1)
    go_wp2_with fail
    refine HX.out.mono ?_; rintro e w5 ⟨rfl, hT5⟩
    have HT5 := Lib.hid (HT1.out.trans hT5)
    clear hT5 HX
    have hcm : CmdCell w5 w.heap.size := (HT5.out.block w.heap.size (by rw [HZ.out.2]; omega) (by have := HZ.out.1; omega)).trans HCM.out
    obtain ⟨⟨k0, k1, k2⟩, ⟨f0, f1, f2⟩⟩ := hcm.cell
    clear hcm
    go_wp2_with fail
    simp [bodyPost, results, Tryd.results28, go_sem, k0, k1, k2]
    refine ⟨by first | rfl | (rw [HCN.out]; rfl) | (rw [HCN.out, HXT.out]; rfl), ?_⟩
    exact (((HT0.out.trans HT5.out).off _ _ (Nat.le_refl _)).off _ _ (Nat.le_refl _)).off _ _ (Nat.le_refl _)
  by_cases y5 : Y = w_end
  · subst y5
    have HC2 := Lib.hid (show C = orNone ((⟨99, [], []⟩, (workW L).length == 0)) from by rw [HC.out]; unfold commandC; rw [if_neg (by decide), if_neg (by decide), if_neg (by decide), if_neg (by decide), if_neg (by decide), if_pos rfl])
    have q0 : (X.toList == [115, 101, 116]) = false := by rw [hY]; rfl
    have q1 : (X.toList == [114, 101, 115, 101, 116]) = false := by rw [hY]; rfl
    have q2 : (X.toList == [100, 105, 115, 99, 97, 114, 100]) = false := by rw [hY]; rfl
    have q3 : (X.toList == [115, 116, 97, 114, 116]) = false := by rw [hY]; rfl
    have q4 : (X.toList == [98, 101, 103, 105, 110]) = false := by rw [hY]; rfl
    have q5 : (X.toList == [101, 110, 100]) = true := by rw [hY]; rfl
    have q6 : (X.toList == [99, 111, 109, 109, 105, 116]) = false := by rw [hY]; rfl
    have q7 : (X.toList == [97, 98, 111, 114, 116]) = false := by rw [hY]; rfl
    have q8 : (X.toList == [114, 111, 108, 108, 98, 97, 99, 107]) = false := by rw [hY]; rfl
    have q9 : (X.toList == [115, 97, 118, 101, 112, 111, 105, 110, 116]) = false := by rw [hY]; rfl
    have q10 : (X.toList == [114, 101, 108, 101, 97, 115, 101]) = false := by rw [hY]; rfl
    have q11 : (X.toList == [115, 104, 111, 119]) = false := by rw [hY]; rfl
    clear hY HC
    go_enter Tryd.func28, Tryd.ntmps28
    have HWK := Lib.hid (rwork_any p L W0 HR0.out)
    obtain ⟨L1, hL1⟩ : ∃ z, z = workW L := ⟨_, rfl⟩
    rw [← hL1] at HWK HC2
    clear hL1
    go_wp2_with fail
    rw [← HE.out]
    refine HWK.out.mono ?_; rintro e w1 ⟨rfl, hR1, hT1⟩
    have HT1 := Lib.hid hT1
    have HR1 := Lib.hid hR1
    clear hR1 hT1 HWK
    obtain ⟨ck, cn, cv⟩ := C
    have HX := Lib.hid (show Calls Tryd.prog 50 #[.pointer (some ⟨p, 0, none⟩), .int .u8 99] w1 (fun e w' => e = .returned (.agg #[.int .u8 (ck.toNat : Nat), .string ⟨cn.toArray⟩, .string ⟨cv.toArray⟩]) ∧ TurnedR w1 w' p) from by
      have h1 := rends_any p 99 L1 w1 HR1.out
      rw [show orNone (⟨99, [], []⟩, L1.length == 0) = ⟨ck, cn, cv⟩ from HC2.out.symm] at h1
      exact h1)
    go_wp2_with fail
    refine HX.out.mono ?_; rintro e w5 ⟨rfl, hT5⟩
    have HT5 := Lib.hid (HT1.out.trans hT5)
    clear hT5 HX
    have hcm : CmdCell w5 w.heap.size := (HT5.out.block w.heap.size (by rw [HZ.out.2]; omega) (by have := HZ.out.1; omega)).trans HCM.out
    obtain ⟨⟨k0, k1, k2⟩, ⟨f0, f1, f2⟩⟩ := hcm.cell
    clear hcm
    go_wp2_with fail
    simp [bodyPost, results, Tryd.results28, go_sem, k0, k1, k2]
    refine ⟨by first | rfl | (rw [HCN.out]; rfl) | (rw [HCN.out, HXT.out]; rfl), ?_⟩
    exact (((HT0.out.trans HT5.out).off _ _ (Nat.le_refl _)).off _ _ (Nat.le_refl _)).off _ _ (Nat.le_refl _)
  by_cases y6 : Y = w_commit
  · subst y6
    have HC2 := Lib.hid (show C = orNone ((⟨99, [], []⟩, (workW L).length == 0)) from by rw [HC.out]; unfold commandC; rw [if_neg (by decide), if_neg (by decide), if_neg (by decide), if_neg (by decide), if_neg (by decide), if_neg (by decide), if_pos rfl])
    have q0 : (X.toList == [115, 101, 116]) = false := by rw [hY]; rfl
    have q1 : (X.toList == [114, 101, 115, 101, 116]) = false := by rw [hY]; rfl
    have q2 : (X.toList == [100, 105, 115, 99, 97, 114, 100]) = false := by rw [hY]; rfl
    have q3 : (X.toList == [115, 116, 97, 114, 116]) = false := by rw [hY]; rfl
    have q4 : (X.toList == [98, 101, 103, 105, 110]) = false := by rw [hY]; rfl
    have q5 : (X.toList == [101, 110, 100]) = false := by rw [hY]; rfl
    have q6 : (X.toList == [99, 111, 109, 109, 105, 116]) = true := by rw [hY]; rfl
    have q7 : (X.toList == [97, 98, 111, 114, 116]) = false := by rw [hY]; rfl
    have q8 : (X.toList == [114, 111, 108, 108, 98, 97, 99, 107]) = false := by rw [hY]; rfl
    have q9 : (X.toList == [115, 97, 118, 101, 112, 111, 105, 110, 116]) = false := by rw [hY]; rfl
    have q10 : (X.toList == [114, 101, 108, 101, 97, 115, 101]) = false := by rw [hY]; rfl
    have q11 : (X.toList == [115, 104, 111, 119]) = false := by rw [hY]; rfl
    clear hY HC
    go_enter Tryd.func28, Tryd.ntmps28
    have HWK := Lib.hid (rwork_any p L W0 HR0.out)
    obtain ⟨L1, hL1⟩ : ∃ z, z = workW L := ⟨_, rfl⟩
    rw [← hL1] at HWK HC2
    clear hL1
    go_wp2_with fail
    rw [← HE.out]
    refine HWK.out.mono ?_; rintro e w1 ⟨rfl, hR1, hT1⟩
    have HT1 := Lib.hid hT1
    have HR1 := Lib.hid hR1
    clear hR1 hT1 HWK
    obtain ⟨ck, cn, cv⟩ := C
    have HX := Lib.hid (show Calls Tryd.prog 50 #[.pointer (some ⟨p, 0, none⟩), .int .u8 99] w1 (fun e w' => e = .returned (.agg #[.int .u8 (ck.toNat : Nat), .string ⟨cn.toArray⟩, .string ⟨cv.toArray⟩]) ∧ TurnedR w1 w' p) from by
      have h1 := rends_any p 99 L1 w1 HR1.out
      rw [show orNone (⟨99, [], []⟩, L1.length == 0) = ⟨ck, cn, cv⟩ from HC2.out.symm] at h1
      exact h1)
    go_wp2_with fail
    refine HX.out.mono ?_; rintro e w5 ⟨rfl, hT5⟩
    have HT5 := Lib.hid (HT1.out.trans hT5)
    clear hT5 HX
    have hcm : CmdCell w5 w.heap.size := (HT5.out.block w.heap.size (by rw [HZ.out.2]; omega) (by have := HZ.out.1; omega)).trans HCM.out
    obtain ⟨⟨k0, k1, k2⟩, ⟨f0, f1, f2⟩⟩ := hcm.cell
    clear hcm
    go_wp2_with fail
    simp [bodyPost, results, Tryd.results28, go_sem, k0, k1, k2]
    refine ⟨by first | rfl | (rw [HCN.out]; rfl) | (rw [HCN.out, HXT.out]; rfl), ?_⟩
    exact (((HT0.out.trans HT5.out).off _ _ (Nat.le_refl _)).off _ _ (Nat.le_refl _)).off _ _ (Nat.le_refl _)
  by_cases y7 : Y = w_abort
  · subst y7
    have HC2 := Lib.hid (show C = orNone (rollC (workW L)) from by rw [HC.out]; unfold commandC; rw [if_neg (by decide), if_neg (by decide), if_neg (by decide), if_neg (by decide), if_neg (by decide), if_neg (by decide), if_neg (by decide), if_pos rfl])
    have q0 : (X.toList == [115, 101, 116]) = false := by rw [hY]; rfl
    have q1 : (X.toList == [114, 101, 115, 101, 116]) = false := by rw [hY]; rfl
    have q2 : (X.toList == [100, 105, 115, 99, 97, 114, 100]) = false := by rw [hY]; rfl
    have q3 : (X.toList == [115, 116, 97, 114, 116]) = false := by rw [hY]; rfl
    have q4 : (X.toList == [98, 101, 103, 105, 110]) = false := by rw [hY]; rfl
    have q5 : (X.toList == [101, 110, 100]) = false := by rw [hY]; rfl
    have q6 : (X.toList == [99, 111, 109, 109, 105, 116]) = false := by rw [hY]; rfl
    have q7 : (X.toList == [97, 98, 111, 114, 116]) = true := by rw [hY]; rfl
    have q8 : (X.toList == [114, 111, 108, 108, 98, 97, 99, 107]) = false := by rw [hY]; rfl
    have q9 : (X.toList == [115, 97, 118, 101, 112, 111, 105, 110, 116]) = false := by rw [hY]; rfl
    have q10 : (X.toList == [114, 101, 108, 101, 97, 115, 101]) = false := by rw [hY]; rfl
    have q11 : (X.toList == [115, 104, 111, 119]) = false := by rw [hY]; rfl
    clear hY HC
    go_enter Tryd.func28, Tryd.ntmps28
    obtain ⟨ck, cn, cv⟩ := C
    have HX := Lib.hid (show Calls Tryd.prog 52 #[.pointer (some ⟨p, 0, none⟩)] W0 (fun e w' => e = .returned (.agg #[.int .u8 (ck.toNat : Nat), .string ⟨cn.toArray⟩, .string ⟨cv.toArray⟩]) ∧ TurnedR W0 w' p) from by
      have h1 := rback_any p L W0 HR0.out
      rw [show orNone (rollC (workW L)) = ⟨ck, cn, cv⟩ from HC2.out.symm] at h1
      exact h1)
    go_wp2_with fail
    rw [← HE.out]
    refine HX.out.mono ?_; rintro e w5 ⟨rfl, hT5⟩
    have HT5 := Lib.hid (HTZ.out.trans hT5)
    clear hT5 HX
    have hcm : CmdCell w5 w.heap.size := (HT5.out.block w.heap.size (by rw [HZ.out.2]; omega) (by have := HZ.out.1; omega)).trans HCM.out
    obtain ⟨⟨k0, k1, k2⟩, ⟨f0, f1, f2⟩⟩ := hcm.cell
    clear hcm
    go_wp2_with fail
    simp [bodyPost, results, Tryd.results28, go_sem, k0, k1, k2]
    refine ⟨by first | rfl | (rw [HCN.out]; rfl) | (rw [HCN.out, HXT.out]; rfl), ?_⟩
    exact (((HT0.out.trans HT5.out).off _ _ (Nat.le_refl _)).off _ _ (Nat.le_refl _)).off _ _ (Nat.le_refl _)
  by_cases y8 : Y = w_rollback
  · subst y8
    have HC2 := Lib.hid (show C = orNone (rollC (workW L)) from by rw [HC.out]; unfold commandC; rw [if_neg (by decide), if_neg (by decide), if_neg (by decide), if_neg (by decide), if_neg (by decide), if_neg (by decide), if_neg (by decide), if_neg (by decide), if_pos rfl])
    have q0 : (X.toList == [115, 101, 116]) = false := by rw [hY]; rfl
    have q1 : (X.toList == [114, 101, 115, 101, 116]) = false := by rw [hY]; rfl
    have q2 : (X.toList == [100, 105, 115, 99, 97, 114, 100]) = false := by rw [hY]; rfl
    have q3 : (X.toList == [115, 116, 97, 114, 116]) = false := by rw [hY]; rfl
    have q4 : (X.toList == [98, 101, 103, 105, 110]) = false := by rw [hY]; rfl
    have q5 : (X.toList == [101, 110, 100]) = false := by rw [hY]; rfl
    have q6 : (X.toList == [99, 111, 109, 109, 105, 116]) = false := by rw [hY]; rfl
    have q7 : (X.toList == [97, 98, 111, 114, 116]) = false := by rw [hY]; rfl
    have q8 : (X.toList == [114, 111, 108, 108, 98, 97, 99, 107]) = true := by rw [hY]; rfl
    have q9 : (X.toList == [115, 97, 118, 101, 112, 111, 105, 110, 116]) = false := by rw [hY]; rfl
    have q10 : (X.toList == [114, 101, 108, 101, 97, 115, 101]) = false := by rw [hY]; rfl
    have q11 : (X.toList == [115, 104, 111, 119]) = false := by rw [hY]; rfl
    clear hY HC
    go_enter Tryd.func28, Tryd.ntmps28
    obtain ⟨ck, cn, cv⟩ := C
    have HX := Lib.hid (show Calls Tryd.prog 52 #[.pointer (some ⟨p, 0, none⟩)] W0 (fun e w' => e = .returned (.agg #[.int .u8 (ck.toNat : Nat), .string ⟨cn.toArray⟩, .string ⟨cv.toArray⟩]) ∧ TurnedR W0 w' p) from by
      have h1 := rback_any p L W0 HR0.out
      rw [show orNone (rollC (workW L)) = ⟨ck, cn, cv⟩ from HC2.out.symm] at h1
      exact h1)
    go_wp2_with fail
    rw [← HE.out]
    refine HX.out.mono ?_; rintro e w5 ⟨rfl, hT5⟩
    have HT5 := Lib.hid (HTZ.out.trans hT5)
    clear hT5 HX
    have hcm : CmdCell w5 w.heap.size := (HT5.out.block w.heap.size (by rw [HZ.out.2]; omega) (by have := HZ.out.1; omega)).trans HCM.out
    obtain ⟨⟨k0, k1, k2⟩, ⟨f0, f1, f2⟩⟩ := hcm.cell
    clear hcm
    go_wp2_with fail
    simp [bodyPost, results, Tryd.results28, go_sem, k0, k1, k2]
    refine ⟨by first | rfl | (rw [HCN.out]; rfl) | (rw [HCN.out, HXT.out]; rfl), ?_⟩
    exact (((HT0.out.trans HT5.out).off _ _ (Nat.le_refl _)).off _ _ (Nat.le_refl _)).off _ _ (Nat.le_refl _)
  by_cases y9 : Y = w_savepoint
  · subst y9
    have HC2 := Lib.hid (show C = orNone (pointC 112 L) from by rw [HC.out]; unfold commandC; rw [if_neg (by decide), if_neg (by decide), if_neg (by decide), if_neg (by decide), if_neg (by decide), if_neg (by decide), if_neg (by decide), if_neg (by decide), if_neg (by decide), if_pos rfl])
    have q0 : (X.toList == [115, 101, 116]) = false := by rw [hY]; rfl
    have q1 : (X.toList == [114, 101, 115, 101, 116]) = false := by rw [hY]; rfl
    have q2 : (X.toList == [100, 105, 115, 99, 97, 114, 100]) = false := by rw [hY]; rfl
    have q3 : (X.toList == [115, 116, 97, 114, 116]) = false := by rw [hY]; rfl
    have q4 : (X.toList == [98, 101, 103, 105, 110]) = false := by rw [hY]; rfl
    have q5 : (X.toList == [101, 110, 100]) = false := by rw [hY]; rfl
    have q6 : (X.toList == [99, 111, 109, 109, 105, 116]) = false := by rw [hY]; rfl
    have q7 : (X.toList == [97, 98, 111, 114, 116]) = false := by rw [hY]; rfl
    have q8 : (X.toList == [114, 111, 108, 108, 98, 97, 99, 107]) = false := by rw [hY]; rfl
    have q9 : (X.toList == [115, 97, 118, 101, 112, 111, 105, 110, 116]) = true := by rw [hY]; rfl
    have q10 : (X.toList == [114, 101, 108, 101, 97, 115, 101]) = false := by rw [hY]; rfl
    have q11 : (X.toList == [115, 104, 111, 119]) = false := by rw [hY]; rfl
    clear hY HC
    go_enter Tryd.func28, Tryd.ntmps28
    obtain ⟨ck, cn, cv⟩ := C
    have HX := Lib.hid (show Calls Tryd.prog 53 #[.pointer (some ⟨p, 0, none⟩), .int .u8 112] W0 (fun e w' => e = .returned (.agg #[.int .u8 (ck.toNat : Nat), .string ⟨cn.toArray⟩, .string ⟨cv.toArray⟩]) ∧ TurnedR W0 w' p) from by
      have h1 := rat_any p 112 L W0 HR0.out
      rw [show orNone (pointC 112 L) = ⟨ck, cn, cv⟩ from HC2.out.symm] at h1
      exact h1)
    go_wp2_with fail
    rw [← HE.out]
    refine HX.out.mono ?_; rintro e w5 ⟨rfl, hT5⟩
    have HT5 := Lib.hid (HTZ.out.trans hT5)
    clear hT5 HX
    have hcm : CmdCell w5 w.heap.size := (HT5.out.block w.heap.size (by rw [HZ.out.2]; omega) (by have := HZ.out.1; omega)).trans HCM.out
    obtain ⟨⟨k0, k1, k2⟩, ⟨f0, f1, f2⟩⟩ := hcm.cell
    clear hcm
    go_wp2_with fail
    simp [bodyPost, results, Tryd.results28, go_sem, k0, k1, k2]
    refine ⟨by first | rfl | (rw [HCN.out]; rfl) | (rw [HCN.out, HXT.out]; rfl), ?_⟩
    exact (((HT0.out.trans HT5.out).off _ _ (Nat.le_refl _)).off _ _ (Nat.le_refl _)).off _ _ (Nat.le_refl _)
  by_cases y10 : Y = w_release
  · subst y10
    have HC2 := Lib.hid (show C = orNone (pointC 101 (saveW L)) from by rw [HC.out]; unfold commandC; rw [if_neg (by decide), if_neg (by decide), if_neg (by decide), if_neg (by decide), if_neg (by decide), if_neg (by decide), if_neg (by decide), if_neg (by decide), if_neg (by decide), if_neg (by decide), if_pos rfl])
    have q0 : (X.toList == [115, 101, 116]) = false := by rw [hY]; rfl
    have q1 : (X.toList == [114, 101, 115, 101, 116]) = false := by rw [hY]; rfl
    have q2 : (X.toList == [100, 105, 115, 99, 97, 114, 100]) = false := by rw [hY]; rfl
    have q3 : (X.toList == [115, 116, 97, 114, 116]) = false := by rw [hY]; rfl
    have q4 : (X.toList == [98, 101, 103, 105, 110]) = false := by rw [hY]; rfl
    have q5 : (X.toList == [101, 110, 100]) = false := by rw [hY]; rfl
    have q6 : (X.toList == [99, 111, 109, 109, 105, 116]) = false := by rw [hY]; rfl
    have q7 : (X.toList == [97, 98, 111, 114, 116]) = false := by rw [hY]; rfl
    have q8 : (X.toList == [114, 111, 108, 108, 98, 97, 99, 107]) = false := by rw [hY]; rfl
    have q9 : (X.toList == [115, 97, 118, 101, 112, 111, 105, 110, 116]) = false := by rw [hY]; rfl
    have q10 : (X.toList == [114, 101, 108, 101, 97, 115, 101]) = true := by rw [hY]; rfl
    have q11 : (X.toList == [115, 104, 111, 119]) = false := by rw [hY]; rfl
    clear hY HC
    go_enter Tryd.func28, Tryd.ntmps28
    have HSV := Lib.hid (rword_any p { data := #[115, 97, 118, 101, 112, 111, 105, 110, 116] } L W0 HR0.out)
    rw [show bytes { data := #[115, 97, 118, 101, 112, 111, 105, 110, 116] } = w_savepoint from rfl] at HSV
    obtain ⟨a0, c, hCC, _⟩ := HR0.out
    have c0 := hCC.cell
    clear hCC
    have HC0 := Lib.hid (show W0.cell? ⟨p, 0, none⟩ = some (.slice a0 L.length c) from c0)
    obtain ⟨n, hn⟩ : ∃ n, n = L.length := ⟨_, rfl⟩
    have HN := Lib.hid hn
    rw [← hn] at c0
    clear hn
    have HCE := Lib.hid (show (w.alloc (.cells #[.int .u8 0, .string { data := #[] }, .string { data := #[] }] 31)).cell? ⟨p, 0, none⟩ = some (.slice a0 n c) from by rw [← HE.out]; exact c0)
    have c1 := HCE.out
    by_cases hl : 1 < n
    · have hl2 : (1 : Int) < n := by omega
      go_upto_region 32 with (fail)
      rw [← HE.out]
      go_wp2_with fail
      refine HSV.out.mono ?_; rintro e w1 ⟨rfl, hR1, hT1⟩
      have HR1 := Lib.hid (show RestAt w1 p (saveW L) from by
        have e : saveW L = wordR L w_savepoint := by unfold saveW wordR; rw [← HN.out, decide_eq_true hl, Bool.true_and]
        rw [e]; exact hR1)
      have HT1 := Lib.hid hT1
      clear hR1 hT1 c1
      obtain ⟨ck, cn, cv⟩ := C
      have HX := Lib.hid (show Calls Tryd.prog 53 #[.pointer (some ⟨p, 0, none⟩), .int .u8 101] w1 (fun e w' => e = .returned (.agg #[.int .u8 (ck.toNat : Nat), .string ⟨cn.toArray⟩, .string ⟨cv.toArray⟩]) ∧ TurnedR w1 w' p) from by
        have h1 := rat_any p 101 (saveW L) w1 HR1.out
        rw [show orNone (pointC 101 (saveW L)) = ⟨ck, cn, cv⟩ from HC2.out.symm] at h1
        exact h1)
      go_wp2_with fail
      refine HX.out.mono ?_; rintro e w5 ⟨rfl, hT5⟩
      have HT5 := Lib.hid (HT1.out.trans hT5)
      clear hT5 HX
      have hcm : CmdCell w5 w.heap.size := (HT5.out.block w.heap.size (by rw [HZ.out.2]; omega) (by have := HZ.out.1; omega)).trans HCM.out
      obtain ⟨⟨k0, k1, k2⟩, ⟨f0, f1, f2⟩⟩ := hcm.cell
      clear hcm
      go_wp2_with fail
      simp [bodyPost, results, Tryd.results28, go_sem, k0, k1, k2]
      refine ⟨by first | rfl | (rw [HCN.out]; rfl) | (rw [HCN.out, HXT.out]; rfl), ?_⟩
      exact (((HT0.out.trans HT5.out).off _ _ (Nat.le_refl _)).off _ _ (Nat.le_refl _)).off _ _ (Nat.le_refl _)
    · have hl2 : ¬ (1 : Int) < n := by omega
      have HR3 := Lib.hid (show RestAt W0 p (saveW L) from by
        have e : saveW L = L := by unfold saveW; rw [← HN.out, decide_eq_false hl]; rfl
        rw [e]; exact HR0.out)
      go_upto_region 32 with (fail)
      rw [← HE.out]
      clear c1
      obtain ⟨ck, cn, cv⟩ := C
      have HX := Lib.hid (show Calls Tryd.prog 53 #[.pointer (some ⟨p, 0, none⟩), .int .u8 101] W0 (fun e w' => e = .returned (.agg #[.int .u8 (ck.toNat : Nat), .string ⟨cn.toArray⟩, .string ⟨cv.toArray⟩]) ∧ TurnedR W0 w' p) from by
        have h1 := rat_any p 101 (saveW L) W0 HR3.out
        rw [show orNone (pointC 101 (saveW L)) = ⟨ck, cn, cv⟩ from HC2.out.symm] at h1
        exact h1)
      go_wp2_with fail
      refine HX.out.mono ?_; rintro e w5 ⟨rfl, hT5⟩
      have HT5 := Lib.hid (HTZ.out.trans hT5)
      clear hT5 HX
      have hcm : CmdCell w5 w.heap.size := (HT5.out.block w.heap.size (by rw [HZ.out.2]; omega) (by have := HZ.out.1; omega)).trans HCM.out
      obtain ⟨⟨k0, k1, k2⟩, ⟨f0, f1, f2⟩⟩ := hcm.cell
      clear hcm
      go_wp2_with fail
      simp [bodyPost, results, Tryd.results28, go_sem, k0, k1, k2]
      refine ⟨by first | rfl | (rw [HCN.out]; rfl) | (rw [HCN.out, HXT.out]; rfl), ?_⟩
      exact (((HT0.out.trans HT5.out).off _ _ (Nat.le_refl _)).off _ _ (Nat.le_refl _)).off _ _ (Nat.le_refl _)
  by_cases y11 : Y = w_show
  · subst y11
    have HC2 := Lib.hid (show C = orNone (namedC 119 L) from by rw [HC.out]; unfold commandC; rw [if_neg (by decide), if_neg (by decide), if_neg (by decide), if_neg (by decide), if_neg (by decide), if_neg (by decide), if_neg (by decide), if_neg (by decide), if_neg (by decide), if_neg (by decide), if_neg (by decide), if_pos rfl])
    have q0 : (X.toList == [115, 101, 116]) = false := by rw [hY]; rfl
    have q1 : (X.toList == [114, 101, 115, 101, 116]) = false := by rw [hY]; rfl
    have q2 : (X.toList == [100, 105, 115, 99, 97, 114, 100]) = false := by rw [hY]; rfl
    have q3 : (X.toList == [115, 116, 97, 114, 116]) = false := by rw [hY]; rfl
    have q4 : (X.toList == [98, 101, 103, 105, 110]) = false := by rw [hY]; rfl
    have q5 : (X.toList == [101, 110, 100]) = false := by rw [hY]; rfl
    have q6 : (X.toList == [99, 111, 109, 109, 105, 116]) = false := by rw [hY]; rfl
    have q7 : (X.toList == [97, 98, 111, 114, 116]) = false := by rw [hY]; rfl
    have q8 : (X.toList == [114, 111, 108, 108, 98, 97, 99, 107]) = false := by rw [hY]; rfl
    have q9 : (X.toList == [115, 97, 118, 101, 112, 111, 105, 110, 116]) = false := by rw [hY]; rfl
    have q10 : (X.toList == [114, 101, 108, 101, 97, 115, 101]) = false := by rw [hY]; rfl
    have q11 : (X.toList == [115, 104, 111, 119]) = true := by rw [hY]; rfl
    clear hY HC
    go_enter Tryd.func28, Tryd.ntmps28
    have HNM := Lib.hid (rname_any p L W0 HR0.out)
    have HTC := Lib.hid (takeB_cases L)
    have hkl := takeB_le L
    obtain ⟨q, hq⟩ : ∃ q, q = takeB L := ⟨_, rfl⟩
    have HC3 := Lib.hid (show C = orNone (⟨119, q.1, []⟩, decide (0 < q.2) && q.2 == L.length) from by rw [HC2.out, hq]; rfl)
    rw [← hq] at HNM HTC hkl
    obtain ⟨x, k⟩ := q
    have HKL := Lib.hid (show k ≤ L.length from hkl)
    obtain ⟨XT, hXT⟩ : ∃ z : ByteArray, z = ⟨x.toArray⟩ := ⟨_, rfl⟩
    have HXT := Lib.hid hXT
    rw [← hXT] at HNM
    have HXL := Lib.hid (show XT.toList = x from by rw [hXT]; exact str_list _)
    clear hq hXT hkl
    go_wp2_with fail
    rw [← HE.out]
    refine HNM.out.mono ?_; rintro e w5 ⟨rfl, hR5, hT5⟩
    have HT5 := Lib.hid (HTZ.out.trans hT5)
    have HR5 := Lib.hid (show RestAt w5 p (L.drop k) from hR5)
    clear hR5 hT5 HNM
    cases hx : (x == []) with
    | true =>
      have ex : x = [] := by simpa using hx
      have r1 : (XT.toList == []) = true := by rw [HXL.out, ex]; rfl
      have r2 : XT.toList.isEmpty = true := by rw [HXL.out, ex]; rfl
      have HCN := Lib.hid (show C = noCmd from by
        rcases HTC.out with h | ⟨y, n, h, hg, h0⟩
        · have e0 : k = 0 := by cases h; rfl
          rw [HC3.out, e0]; rfl
        · have e0 : x = y := by cases h; rfl
          rw [← e0, ex] at hg; exact absurd hg (by decide))
      have hcm : CmdCell w5 w.heap.size := (HT5.out.block w.heap.size (by rw [HZ.out.2]; omega) (by have := HZ.out.1; omega)).trans HCM.out
      obtain ⟨⟨k0, k1, k2⟩, ⟨f0, f1, f2⟩⟩ := hcm.cell
      clear hcm
      clear hx ex
      go_wp2_with fail
      simp [bodyPost, results, Tryd.results28, go_sem, k0, k1, k2]
      refine ⟨by first | rfl | (rw [HCN.out]; rfl) | (rw [HCN.out, HXT.out]; rfl), ?_⟩
      exact (((HT0.out.trans HT5.out).off _ _ (Nat.le_refl _)).off _ _ (Nat.le_refl _)).off _ _ (Nat.le_refl _)
    | false =>
      have r1 : (XT.toList == []) = false := by rw [HXL.out]; exact hx
      have r2 : XT.toList.isEmpty = false := by rw [HXL.out]; cases x with
        | nil => cases hx
        | cons _ _ => rfl
      have HK0 := Lib.hid (show ¬ k = 0 from by
        rcases HTC.out with h | ⟨y, n, h, hg, h0⟩
        · cases h; cases hx
        · cases h; exact h0)
      obtain ⟨a, c, hCC, _⟩ := HR5.out
      have c0 := hCC.cell
      obtain ⟨m, hm⟩ : ∃ m, m = (L.drop k).length := ⟨_, rfl⟩
      rw [← hm] at c0
      have HM := Lib.hid (show m = L.length - k from by rw [hm, List.length_drop])
      clear hx hCC hm
      cases m with
      | zero =>
        have HCN := Lib.hid (show C = ⟨119, x, []⟩ from by
          have e0 : k = L.length := by have := HM.out; have := HKL.out; omega
          have e1 : (decide (0 < k) && k == L.length) = true := by rw [← e0]; have := HK0.out; simp; omega
          rw [HC3.out]
          show orNone (⟨119, x, []⟩, decide (0 < k) && k == L.length) = _
          rw [e1]; rfl)
        have hcm : CmdCell w5 w.heap.size := (HT5.out.block w.heap.size (by rw [HZ.out.2]; omega) (by have := HZ.out.1; omega)).trans HCM.out
        obtain ⟨⟨k0, k1, k2⟩, ⟨f0, f1, f2⟩⟩ := hcm.cell
        clear hcm
        go_wp2_with fail
        simp [bodyPost, results, Tryd.results28, go_sem, k0, k1, k2]
        refine ⟨by first | rfl | (rw [HCN.out]; rfl) | (rw [HCN.out, HXT.out]; rfl), ?_⟩
        exact (((HT0.out.trans HT5.out).off _ _ (Nat.le_refl _)).off _ _ (Nat.le_refl _)).off _ _ (Nat.le_refl _)
      | succ m =>
        have hm : (0 : Int) < ((m + 1 : Nat) : Int) := by omega
        have HCN := Lib.hid (show C = noCmd from by
          have e1 : (decide (0 < k) && k == L.length) = false := by
            have e2 : (k == L.length) = false := by rw [beq_eq_false_iff_ne]; have := HM.out; omega
            rw [e2, Bool.and_false]
          rw [HC3.out]
          show orNone (⟨119, x, []⟩, decide (0 < k) && k == L.length) = _
          rw [e1]; rfl)
        have hcm : CmdCell w5 w.heap.size := (HT5.out.block w.heap.size (by rw [HZ.out.2]; omega) (by have := HZ.out.1; omega)).trans HCM.out
        obtain ⟨⟨k0, k1, k2⟩, ⟨f0, f1, f2⟩⟩ := hcm.cell
        clear hcm
        go_wp2_with fail
        simp [bodyPost, results, Tryd.results28, go_sem, k0, k1, k2]
        refine ⟨by first | rfl | (rw [HCN.out]; rfl) | (rw [HCN.out, HXT.out]; rfl), ?_⟩
        exact (((HT0.out.trans HT5.out).off _ _ (Nat.le_refl _)).off _ _ (Nat.le_refl _)).off _ _ (Nat.le_refl _)
  have HCN := Lib.hid (show C = noCmd from by rw [HC.out]; unfold commandC; rw [if_neg y0, if_neg y1, if_neg y2, if_neg y3, if_neg y4, if_neg y5, if_neg y6, if_neg y7, if_neg y8, if_neg y9, if_neg y10, if_neg y11]; rfl)
  have q0 : (X.toList == [115, 101, 116]) = false := by rw [hY]; exact beq_eq_false_iff_ne.2 y0
  have q1 : (X.toList == [114, 101, 115, 101, 116]) = false := by rw [hY]; exact beq_eq_false_iff_ne.2 y1
  have q2 : (X.toList == [100, 105, 115, 99, 97, 114, 100]) = false := by rw [hY]; exact beq_eq_false_iff_ne.2 y2
  have q3 : (X.toList == [115, 116, 97, 114, 116]) = false := by rw [hY]; exact beq_eq_false_iff_ne.2 y3
  have q4 : (X.toList == [98, 101, 103, 105, 110]) = false := by rw [hY]; exact beq_eq_false_iff_ne.2 y4
  have q5 : (X.toList == [101, 110, 100]) = false := by rw [hY]; exact beq_eq_false_iff_ne.2 y5
  have q6 : (X.toList == [99, 111, 109, 109, 105, 116]) = false := by rw [hY]; exact beq_eq_false_iff_ne.2 y6
  have q7 : (X.toList == [97, 98, 111, 114, 116]) = false := by rw [hY]; exact beq_eq_false_iff_ne.2 y7
  have q8 : (X.toList == [114, 111, 108, 108, 98, 97, 99, 107]) = false := by rw [hY]; exact beq_eq_false_iff_ne.2 y8
  have q9 : (X.toList == [115, 97, 118, 101, 112, 111, 105, 110, 116]) = false := by rw [hY]; exact beq_eq_false_iff_ne.2 y9
  have q10 : (X.toList == [114, 101, 108, 101, 97, 115, 101]) = false := by rw [hY]; exact beq_eq_false_iff_ne.2 y10
  have q11 : (X.toList == [115, 104, 111, 119]) = false := by rw [hY]; exact beq_eq_false_iff_ne.2 y11
  clear hY HC y0 y1 y2 y3 y4 y5 y6 y7 y8 y9 y10 y11
  have HXT := Lib.hid (rfl : (0 : Nat) = 0)
  go_enter Tryd.func28, Tryd.ntmps28
  go_upto_region 40 with (fail)
  rw [← HE.out]
  have hcm : CmdCell W0 w.heap.size := (HTZ.out.block w.heap.size (by rw [HZ.out.2]; omega) (by have := HZ.out.1; omega)).trans HCM.out
  obtain ⟨⟨k0, k1, k2⟩, ⟨f0, f1, f2⟩⟩ := hcm.cell
  clear hcm
  go_wp2_with fail
  simp [bodyPost, results, Tryd.results28, go_sem, k0, k1, k2]
  refine ⟨by first | rfl | (rw [HCN.out]; rfl) | (rw [HCN.out, HXT.out]; rfl), ?_⟩
  exact (((HT0.out.trans HTZ.out).off _ _ (Nat.le_refl _)).off _ _ (Nat.le_refl _)).off _ _ (Nat.le_refl _)
end Go.Proofs.YtgopajddloeclaaDoor
