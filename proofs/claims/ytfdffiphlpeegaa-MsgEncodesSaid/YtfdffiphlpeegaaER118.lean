/- The document's own writer: a row of the letter 118. -/
import Derived.Test.YtfdffiphlpeegaaER
namespace Go.Proofs.Ytfdffiphlpeegaa
open Go.RowKit Go.Lib Go.WideShapes

set_option maxRecDepth 100000 in
set_option maxHeartbeats 8000000 in
theorem rrow_118 (w0 w : World) (s : XS) (hr : xr s ≤ 850000) (h : IsR w0 w s) :
    Calls Try.prog 33 #[.pointer (some ⟨w0.heap.size, 0, none⟩), .int .u8 118] w (ROut w0 (xRow 118 s)) := by
  have HC := Lib.hid (rcount_any w0 w s 100 h)
  have hcr := count_range (m := 100) (by decide) s
  have hroom := (count_room 100 s).1
  have hF : xOne 118 = xValue := rfl
  unfold xRow
  rw [hF]
  have HST := Lib.hid (hF ▸ step_one 118)
  clear h hF
  generalize xCount 100 s = p at HC hcr hroom ⊢
  obtain ⟨n, s1⟩ := p
  obtain ⟨N, rfl⟩ : ∃ N : Nat, n = N := ⟨n.toNat, by simp only at hcr; omega⟩
  simp only [Int.toNat_natCast] at hcr hroom ⊢
  have hN : N ≤ 100 := by omega
  have hS0 := xr_number (N : Int) 2 0 100 s1
  have HL := Lib.hid (show s1.B.length ≤ 1000000 by have := xr_len s1; omega)
  have HSR := Lib.hid (show xr (xNumber (N : Int) 2 0 100 s1) ≤ 850002 by omega)
  obtain ⟨S, hS⟩ : ∃ S, S = xNumber (N : Int) 2 0 100 s1 := ⟨_, rfl⟩
  rw [← hS] at HSR ⊢
  have HS := Lib.hid hS
  clear hcr hroom hS0 hr hS
  go_enter Try.func33, Try.ntmps33
  go_wp2_with fail
  refine HC.out.mono ?_; rintro e w1 ⟨rfl, hI⟩
  have HI1 := Lib.hid hI
  clear hI
  go_wp2_with fail
  refine (rnumber_any w0 w1 s1 N 0 100 2 (by decide) (by decide) (by decide) HL.out HI1.out).mono ?_; rintro e w2 ⟨rfl, hI⟩
  rw [← HS.out] at hI
  have HI2 := Lib.hid hI
  clear hI
  go_wp2_with fail
  go_loopw [5, 5] (fun i _ wr => ∃ (j : Nat) (x : XS), j ≤ N ∧ i = .int .i64 j ∧ xRep N (xValue) S = xRep (N - j) (xValue) x ∧ ((x.bad = false → xr x ≤ 850002) ∧ xr x ≤ 850021) ∧ IsR w0 wr x) (fun i _ _ => N - (RowKit.intOf i).toNat)
  case atStart => exact ⟨0, S, Nat.zero_le _, rfl, rfl, ⟨fun _ => HSR.out, Nat.le_trans HSR.out (by decide)⟩, HI2.out⟩
  case round =>
    obtain ⟨j, x, hj, rfl, hk, hrm, tv, nv, hW⟩ := hrel
    have HK := Lib.hid hk
    have c3 := hW.c3
    have HW := Lib.hid hW
    have HR8 := Lib.hid hrm.2
    have HR9 := Lib.hid (Nat.le_trans hrm.2 (show 850021 ≤ 900000 by decide))
    clear hk hW
    by_cases hlt : j < N
    · have hlt' : (j : Int) < N := by omega
      cases hb : x.bad with
      | true =>
        have HE := Lib.hid (HK.out.trans (rep_bad hb _))
        rw [hb] at c3
        clear hrm hb
        go_wp2_with fail
        go_end0
        exact ⟨rfl, by rw [HE.out]; exact ⟨_, _, HW.out⟩⟩
      | false =>
        have hr0 := hrm.1 hb
        have HNX := Lib.hid (show xRep (N - j) (xValue) x = xRep (N - (j + 1)) (xValue) (xValue x) from by
          rw [show N - j = (N - (j + 1)) + 1 by omega, xRep, if_neg (by rw [hb]; decide)])
        have HRM := Lib.hid (show ((xValue x).bad = false → xr (xValue x) ≤ 850002) ∧ xr (xValue x) ≤ 850021 from
          ⟨fun h => Nat.le_trans (HST.out.good x h) hr0, Nat.le_trans (HST.out.room x) (by omega)⟩)
        rw [hb] at c3
        clear hrm hb hr0
        go_wp2_with fail
        have HX := Lib.hid (rnum_any w0 wr x ⟨_, _, HW.out⟩)
        have HNM := Lib.hid (show (xNum x).2.B.length ≤ 1000000 from by
          have : (xNum x).2.B = x.B := by unfold xNum; split <;> rfl
          rw [this]
          have := xr_len x; have h3 := HR9.out
          omega)
        have HVR := Lib.hid (show xr (xNumber (xNum x).1 4 (-1) 10000 (xNum x).2) ≤ 860000 from by
          have h1 := xr_number (xNum x).1 4 (-1) 10000 (xNum x).2
          have h2 : xr (xNum x).2 ≤ xr x := by
            rcases num_ways x with ⟨_, e⟩ | ⟨t, ts, _, e, h⟩
            · rw [e]; exact Nat.le_refl _
            · rw [e]; show xr { x with N := ts } ≤ _; omega
          have h3 := HR8.out
          omega)
        have HEN := Lib.hid (show xValue x = if 0 ≤ (xNum x).1 then xRaw (xNum x).1 (xNumber (xNum x).1 4 (-1) 10000 (xNum x).2) else xNumber (xNum x).1 4 (-1) 10000 (xNum x).2 from rfl)
        rw [HEN.out] at HNX HRM
        generalize xNum x = p at HX HNM HVR HNX HRM
        obtain ⟨k, s2⟩ := p
        simp only at HNM HVR HNX HRM
        refine HX.out.mono ?_; rintro e w3 ⟨rfl, hI⟩
        have HI3 := Lib.hid hI
        clear hI HEN
        go_wp2_with fail
        refine (rnumber_any w0 w3 s2 k (-1) 10000 4 (by decide) (by decide) (by decide) HNM.out HI3.out).mono ?_; rintro e w4 ⟨rfl, hI⟩
        generalize xNumber k 4 (-1) 10000 s2 = s3 at hI HVR HNX HRM
        have HI4 := Lib.hid hI
        clear hI
        by_cases hk : 0 ≤ k
        · rw [if_pos hk] at HNX HRM
          have HX3 := Lib.hid (rtext_any w0 w4 s3 HI4.out)
          have hx := xtext_size HVR.out
          unfold xRaw at HNX HRM
          generalize xText s3 = p at HX3 hx HNX HRM
          obtain ⟨t, s4⟩ := p
          simp only at hx HNX HRM
          have hx1 := hx.1
          have hx2 := hx.2
          have HTL := Lib.hid (bsize t)
          have HHX := Lib.hid hx
          clear hx
          obtain ⟨tb, htb⟩ : ∃ tb : ByteArray, tb = ⟨t.toArray⟩ := ⟨_, rfl⟩
          rw [← htb] at HX3 HTL
          have hts : tb.size ≤ 860000 := by rw [HTL.out]; exact hx1
          have HTB := Lib.hid htb
          clear htb hx1 hx2
          go_wp2_with fail
          refine HX3.out.mono ?_; rintro e w5 ⟨rfl, tv5, nv5, hW5⟩
          have c3 := hW5.c3
          have f3 := hW5.f3
          have c2 := hW5.c2
          have f2 := hW5.f2
          have hsz5 : s4.B.length ≤ 860000 := HHX.out.2
          have HP := Lib.hid ((hW5.put3 (s4.bad || decide (¬ (t.length : Int) = k))).put2 (s4.B ++ t))
          rw [← cat_two, ← HTB.out] at HP
          clear hW5
          by_cases hbad : s4.bad = true
          · rw [hbad] at c3
            rw [hbad, Bool.true_or] at HP HNX HRM
            clear hbad
            go_wp2_with fail
            go_roundw
            case measure => first | omega | (simp [RowKit.intOf]; omega)
            case rel => exact ⟨j + 1, _, by omega, by go_num, HK.out.trans HNX.out, HRM.out, _, _, HP.out⟩
          · rw [Bool.not_eq_true] at hbad
            rw [hbad] at c3
            rw [hbad, Bool.false_or, show decide (¬ (t.length : Int) = k) = ((tb.size : Int) != k) from by rw [HTL.out]; by_cases h : (t.length : Int) = k <;> simp [h]] at HP HNX HRM
            clear hbad
            go_wp2_with fail
            go_roundw
            case measure => first | omega | (simp [RowKit.intOf]; omega)
            case rel => exact ⟨j + 1, _, by omega, by go_num, HK.out.trans HNX.out, HRM.out, _, _, HP.out⟩
        · rw [if_neg hk] at HNX HRM
          go_wp2_with fail
          go_roundw
          case measure => first | omega | (simp [RowKit.intOf]; omega)
          case rel => exact ⟨j + 1, _, by omega, by go_num, HK.out.trans HNX.out, HRM.out, HI4.out⟩
    · obtain rfl : j = N := by omega
      have HE := Lib.hid (show xRep j (xValue) S = x from by have := HK.out; rw [Nat.sub_self] at this; exact this)
      clear hrm hlt
      go_wp2_with fail
      go_end0
      exact ⟨rfl, by rw [HE.out]; exact ⟨_, _, HW.out⟩⟩
end Go.Proofs.Ytfdffiphlpeegaa
