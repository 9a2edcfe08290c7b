/- Contracts and mathematics: ER118, EF102, EF112, EFall. -/
import Derived.Test.YtmofnkinclckoaaGreatDoorZ31
import Derived.Test.YtmofnkinclckoaaGreatDoorZ7
namespace Go.Proofs.YtmofnkinclckoaaGreatDoor
open Go.RowKit Go.Lib Go.WideShapes

set_option maxRecDepth 100000 in
set_option maxHeartbeats 8000000 in
theorem rrow_118 (w0 w : World) (s : XS) (hr : xr s ≤ 850000) (h : IsR w0 w s) :
    Calls Tryz.prog 83 #[.pointer (some ⟨w0.heap.size, 0, none⟩), .int .u8 118] w (ROut w0 (xRow 118 s)) := by
  have HC := Lib.hid (rcount_any w0 w s 100 h)
  have hcr := count_range (m := 100) (by decide) s
  have hroom := (count_room 100 s).1
  have hF : xOne 118 = xValue := rfl
  unfold xRow
  rw [hF]
  have HST := Lib.hid (hF ▸ step_one 118)
  clear h hF
  generalize xCount 100 s = p at HC hcr hroom ⊢
  obtain ⟨n, s1⟩ := p
  obtain ⟨N, rfl⟩ : ∃ N : Nat, n = N := ⟨n.toNat, by simp only at hcr; omega⟩
  simp only [Int.toNat_natCast] at hcr hroom ⊢
  have hN : N ≤ 100 := by omega
  have hS0 := xr_number (N : Int) 2 0 100 s1
  have HL := Lib.hid (show s1.B.length ≤ 1000000 by have := xr_len s1; omega)
  have HSR := Lib.hid (show xr (xNumber (N : Int) 2 0 100 s1) ≤ 850002 by omega)
  obtain ⟨S, hS⟩ : ∃ S, S = xNumber (N : Int) 2 0 100 s1 := ⟨_, rfl⟩
  rw [← hS] at HSR ⊢
  have HS := Lib.hid hS
  clear hcr hroom hS0 hr hS
  go_enter Tryz.func83, Tryz.ntmps83
  go_wp2_with fail
  refine HC.out.mono ?_; rintro e w1 ⟨rfl, hI⟩
  have HI1 := Lib.hid hI
  clear hI
  go_wp2_with fail
  refine (rnumber_any w0 w1 s1 N 0 100 2 (by decide) (by decide) (by decide) HL.out HI1.out).mono ?_; rintro e w2 ⟨rfl, hI⟩
  rw [← HS.out] at hI
  have HI2 := Lib.hid hI
  clear hI
  go_wp2_with fail
  go_loopw [5, 5] (fun i _ wr => ∃ (j : Nat) (x : XS), j ≤ N ∧ i = .int .i64 j ∧ xRep N (xValue) S = xRep (N - j) (xValue) x ∧ ((x.bad = false → xr x ≤ 850002) ∧ xr x ≤ 850021) ∧ IsR w0 wr x) (fun i _ _ => N - (RowKit.intOf i).toNat)
  case atStart => exact ⟨0, S, Nat.zero_le _, rfl, rfl, ⟨fun _ => HSR.out, Nat.le_trans HSR.out (by decide)⟩, HI2.out⟩
  case round =>
    obtain ⟨j, x, hj, rfl, hk, hrm, tv, nv, hW⟩ := hrel
    have HK := Lib.hid hk
    have c3 := hW.c3
    have HW := Lib.hid hW
    have HR8 := Lib.hid hrm.2
    have HR9 := Lib.hid (Nat.le_trans hrm.2 (show 850021 ≤ 900000 by decide))
    clear hk hW
    by_cases hlt : j < N
    · have hlt' : (j : Int) < N := by omega
      cases hb : x.bad with
      | true =>
        have HE := Lib.hid (HK.out.trans (rep_bad hb _))
        rw [hb] at c3
        clear hrm hb
        go_wp2_with fail
        go_end0
        exact ⟨rfl, by rw [HE.out]; exact ⟨_, _, HW.out⟩⟩
      | false =>
        have hr0 := hrm.1 hb
        have HNX := Lib.hid (show xRep (N - j) (xValue) x = xRep (N - (j + 1)) (xValue) (xValue x) from by
          rw [show N - j = (N - (j + 1)) + 1 by omega, xRep, if_neg (by rw [hb]; decide)])
        have HRM := Lib.hid (show ((xValue x).bad = false → xr (xValue x) ≤ 850002) ∧ xr (xValue x) ≤ 850021 from
          ⟨fun h => Nat.le_trans (HST.out.good x h) hr0, Nat.le_trans (HST.out.room x) (by omega)⟩)
        rw [hb] at c3
        clear hrm hb hr0
        go_wp2_with fail
        have HX := Lib.hid (rnum_any w0 wr x ⟨_, _, HW.out⟩)
        have HNM := Lib.hid (show (xNum x).2.B.length ≤ 1000000 from by
          have : (xNum x).2.B = x.B := by unfold xNum; split <;> rfl
          rw [this]
          have := xr_len x; have h3 := HR9.out
          omega)
        have HVR := Lib.hid (show xr (xNumber (xNum x).1 4 (-1) 10000 (xNum x).2) ≤ 860000 from by
          have h1 := xr_number (xNum x).1 4 (-1) 10000 (xNum x).2
          have h2 : xr (xNum x).2 ≤ xr x := by
            rcases num_ways x with ⟨_, e⟩ | ⟨t, ts, _, e, h⟩
            · rw [e]; exact Nat.le_refl _
            · rw [e]; show xr { x with N := ts } ≤ _; omega
          have h3 := HR8.out
          omega)
        have HEN := Lib.hid (show xValue x = if 0 ≤ (xNum x).1 then xRaw (xNum x).1 (xNumber (xNum x).1 4 (-1) 10000 (xNum x).2) else xNumber (xNum x).1 4 (-1) 10000 (xNum x).2 from rfl)
        rw [HEN.out] at HNX HRM
        generalize xNum x = p at HX HNM HVR HNX HRM
        obtain ⟨k, s2⟩ := p
        simp only at HNM HVR HNX HRM
        refine HX.out.mono ?_; rintro e w3 ⟨rfl, hI⟩
        have HI3 := Lib.hid hI
        clear hI HEN
        go_wp2_with fail
        refine (rnumber_any w0 w3 s2 k (-1) 10000 4 (by decide) (by decide) (by decide) HNM.out HI3.out).mono ?_; rintro e w4 ⟨rfl, hI⟩
        generalize xNumber k 4 (-1) 10000 s2 = s3 at hI HVR HNX HRM
        have HI4 := Lib.hid hI
        clear hI
        by_cases hk : 0 ≤ k
        · rw [if_pos hk] at HNX HRM
          have HX3 := Lib.hid (rtext_any w0 w4 s3 HI4.out)
          have hx := xtext_size HVR.out
          unfold xRaw at HNX HRM
          generalize xText s3 = p at HX3 hx HNX HRM
          obtain ⟨t, s4⟩ := p
          simp only at hx HNX HRM
          have hx1 := hx.1
          have hx2 := hx.2
          have HTL := Lib.hid (bsize t)
          have HHX := Lib.hid hx
          clear hx
          obtain ⟨tb, htb⟩ : ∃ tb : ByteArray, tb = ⟨t.toArray⟩ := ⟨_, rfl⟩
          rw [← htb] at HX3 HTL
          have hts : tb.size ≤ 860000 := by rw [HTL.out]; exact hx1
          have HTB := Lib.hid htb
          clear htb hx1 hx2
          go_wp2_with fail
          refine HX3.out.mono ?_; rintro e w5 ⟨rfl, tv5, nv5, hW5⟩
          have c3 := hW5.c3
          have f3 := hW5.f3
          have c2 := hW5.c2
          have f2 := hW5.f2
          have hsz5 : s4.B.length ≤ 860000 := HHX.out.2
          have HP := Lib.hid ((hW5.put3 (s4.bad || decide (¬ (t.length : Int) = k))).put2 (s4.B ++ t))
          rw [← cat_two, ← HTB.out] at HP
          clear hW5
          by_cases hbad : s4.bad = true
          · rw [hbad] at c3
            rw [hbad, Bool.true_or] at HP HNX HRM
            clear hbad
            go_wp2_with fail
            go_roundw
            case measure => first | omega | (simp [RowKit.intOf]; omega)
            case rel => exact ⟨j + 1, _, by omega, by go_num, HK.out.trans HNX.out, HRM.out, _, _, HP.out⟩
          · rw [Bool.not_eq_true] at hbad
            rw [hbad] at c3
            rw [hbad, Bool.false_or, show decide (¬ (t.length : Int) = k) = ((tb.size : Int) != k) from by rw [HTL.out]; by_cases h : (t.length : Int) = k <;> simp [h]] at HP HNX HRM
            clear hbad
            go_wp2_with fail
            go_roundw
            case measure => first | omega | (simp [RowKit.intOf]; omega)
            case rel => exact ⟨j + 1, _, by omega, by go_num, HK.out.trans HNX.out, HRM.out, _, _, HP.out⟩
        · rw [if_neg hk] at HNX HRM
          go_wp2_with fail
          go_roundw
          case measure => first | omega | (simp [RowKit.intOf]; omega)
          case rel => exact ⟨j + 1, _, by omega, by go_num, HK.out.trans HNX.out, HRM.out, HI4.out⟩
    · obtain rfl : j = N := by omega
      have HE := Lib.hid (show xRep j (xValue) S = x from by have := HK.out; rw [Nat.sub_self] at this; exact this)
      clear hrm hlt
      go_wp2_with fail
      go_end0
      exact ⟨rfl, by rw [HE.out]; exact ⟨_, _, HW.out⟩⟩
end Go.Proofs.YtmofnkinclckoaaGreatDoor

namespace Go.Proofs.YtmofnkinclckoaaGreatDoor
open Go.RowKit Go.Lib Go.WideShapes

set_option maxRecDepth 100000 in
set_option maxHeartbeats 8000000 in
theorem rfield_102 (w0 w : World) (s : XS) (hr : xr s ≤ 850000) (h : IsR w0 w s) :
    Calls Tryz.prog 64 #[.pointer (some ⟨w0.heap.size, 0, none⟩), .int .u8 102] w (ROut w0 (xFields s)) := by
  have HC := Lib.hid (rcount_any w0 w s 10000 h)
  have hcr := count_range (m := 10000) (by decide) s
  have hroom := (count_room 10000 s).1
  have HST := Lib.hid step_item
  unfold xFields
  clear h
  generalize xCount 10000 s = p at HC hcr hroom ⊢
  obtain ⟨n, S⟩ := p
  obtain ⟨N, rfl⟩ : ∃ N : Nat, n = N := ⟨n.toNat, by simp only at hcr; omega⟩
  simp only [Int.toNat_natCast] at hcr hroom ⊢
  have hN : N ≤ 10000 := by omega
  have HSR := Lib.hid (show xr S ≤ 850000 by omega)
  clear hcr hroom hr
  go_enter Tryz.func64, Tryz.ntmps64
  go_wp2_with fail
  refine HC.out.mono ?_; rintro e w1 ⟨rfl, hI⟩
  have HI1 := Lib.hid hI
  clear hI
  go_wp2_with fail
  go_loopw [8, 8] (fun i _ wr => ∃ (j : Nat) (x : XS), j ≤ N ∧ i = .int .i64 j ∧ xRep N xItem S = xRep (N - j) xItem x ∧ ((x.bad = false → xr x ≤ 850000) ∧ xr x ≤ 850000 + 5) ∧ IsR w0 wr x) (fun i _ _ => N - (RowKit.intOf i).toNat)
  case atStart => exact ⟨0, S, Nat.zero_le _, rfl, rfl, ⟨fun _ => HSR.out, Nat.le_trans HSR.out (by decide)⟩, HI1.out⟩
  case round =>
    obtain ⟨j, x, hj, rfl, hk, hrm, tv, nv, hW⟩ := hrel
    have HK := Lib.hid hk
    have c3 := hW.c3
    have HW := Lib.hid hW
    have HR8 := Lib.hid hrm.2
    have HR9 := Lib.hid (Nat.le_trans hrm.2 (show 850000 + 5 ≤ 900000 by decide))
    clear hk hW
    by_cases hlt : j < N
    · have hlt' : (j : Int) < N := by omega
      cases hb : x.bad with
      | true =>
        have HE := Lib.hid (HK.out.trans (rep_bad hb _))
        rw [hb] at c3
        clear hrm
        clear hb
        have c2 := HW.out.c2
        have f2 := HW.out.f2
        have hsz : x.B.length ≤ 950000 := by have := xr_len x; have h3 := HR9.out; omega
        have HP := Lib.hid (HW.out.put2 (x.B ++ [0]))
        rw [← cat_two, show (⟨([0] : Bs).toArray⟩ : ByteArray) = { data := #[0] } from rfl] at HP
        go_wp2_with fail
        go_end0
        exact ⟨rfl, by rw [HE.out]; exact ⟨_, _, HP.out⟩⟩
      | false =>
        have hr0 := hrm.1 hb
        have HNX := Lib.hid (show xRep (N - j) xItem x = xRep (N - (j + 1)) xItem (xItem x) from by
          rw [show N - j = (N - (j + 1)) + 1 by omega, xRep, if_neg (by rw [hb]; decide)])
        have HRM := Lib.hid (show ((xItem x).bad = false → xr (xItem x) ≤ 850000) ∧ xr (xItem x) ≤ 850000 + 5 from
          ⟨fun h => Nat.le_trans (HST.out.good x h) hr0, Nat.le_trans (HST.out.room x) (by omega)⟩)
        have HEN := Lib.hid (show xItem x = xEndText (xNumF 1 255 1 x) from rfl)
        rw [HEN.out] at HNX HRM
        have HX := Lib.hid (rnum_any w0 wr x ⟨_, _, HW.out⟩)
        have HNF := Lib.hid (show xNumF 1 255 1 x = xNumber (xNum x).1 1 1 255 (xNum x).2 from rfl)
        have HNM := Lib.hid (show (xNum x).2.B.length ≤ 1000000 from by
          have : (xNum x).2.B = x.B := by unfold xNum; split <;> rfl
          rw [this]
          have := xr_len x; have h3 := HR9.out
          omega)
        have HVR := Lib.hid (show xr (xNumF 1 255 1 x) ≤ 900000 from by
          have h1 := (step_numf (l := 1) (m := 255) (k := 1) (by decide)).room x
          have h3 := HR8.out
          omega)
        generalize xNum x = p at HX HNF HNM
        obtain ⟨k, s2⟩ := p
        simp only at HNF HNM
        generalize xNumF 1 255 1 x = s3 at HNF HVR HNX HRM
        have HT := Lib.hid (fun w (h : IsR w0 w s3) => rtext_any w0 w s3 h)
        have hx := xtext_size HVR.out
        have HEN2 := Lib.hid (show xEndText s3 = xEnded (xText s3).1 (xText s3).2 from rfl)
        generalize xText s3 = p at HT hx HEN2
        obtain ⟨t, s4⟩ := p
        have hts : (⟨t.toArray⟩ : ByteArray).size ≤ 900000 := by rw [bsize]; exact hx.1
        have HE := Lib.hid (fun w (h : IsR w0 w s4) => rended_any w0 w s4 ⟨t.toArray⟩ (by omega) (Nat.le_trans hx.2 (by decide)) h)
        have HB := Lib.hid (show bytes (⟨t.toArray⟩ : ByteArray) = t by simp [bytes])
        rw [HB.out] at HE
        simp only at HEN2
        rw [← HEN2.out] at HE
        rw [hb] at c3
        clear hx hrm hb hr0
        go_wp2_with fail
        refine HX.out.mono ?_; rintro e w3 ⟨rfl, hI⟩
        have HI3 := Lib.hid hI
        clear hI
        go_wp2_with fail
        refine (rnumber_any w0 w3 s2 k 1 255 1 (by decide) (by decide) (by decide) HNM.out HI3.out).mono ?_; rintro e w4 ⟨rfl, hI⟩
        rw [← HNF.out] at hI
        have HI4 := Lib.hid hI
        clear hI
        go_wp2_with fail
        refine (HT.out w4 HI4.out).mono ?_; rintro e w5 ⟨rfl, hI⟩
        have HI5 := Lib.hid hI
        clear hI
        go_wp2_with fail
        refine (HE.out w5 HI5.out).mono ?_; rintro e w6 ⟨rfl, hI⟩
        have HI6 := Lib.hid hI
        clear hI
        go_wp2_with fail
        go_roundw
        case measure => first | omega | (simp [RowKit.intOf]; omega)
        case rel => exact ⟨j + 1, _, by omega, by go_num, HK.out.trans HNX.out, HRM.out, HI6.out⟩
    · obtain rfl : j = N := by omega
      have HE := Lib.hid (show xRep j xItem S = x from by have := HK.out; rw [Nat.sub_self] at this; exact this)
      clear hrm hlt
      have c2 := HW.out.c2
      have f2 := HW.out.f2
      have hsz : x.B.length ≤ 950000 := by have := xr_len x; have h3 := HR9.out; omega
      have HP := Lib.hid (HW.out.put2 (x.B ++ [0]))
      rw [← cat_two, show (⟨([0] : Bs).toArray⟩ : ByteArray) = { data := #[0] } from rfl] at HP
      go_wp2_with fail
      go_end0
      exact ⟨rfl, by rw [HE.out]; exact ⟨_, _, HP.out⟩⟩
end Go.Proofs.YtmofnkinclckoaaGreatDoor

namespace Go.Proofs.YtmofnkinclckoaaGreatDoor
open Go.RowKit Go.Lib Go.WideShapes

set_option maxRecDepth 100000 in
set_option maxHeartbeats 8000000 in
theorem rfield_112 (w0 w : World) (s : XS) (hr : xr s ≤ 850000) (h : IsR w0 w s) :
    Calls Tryz.prog 64 #[.pointer (some ⟨w0.heap.size, 0, none⟩), .int .u8 112] w (ROut w0 (xPairs s)) := by
  have HC := Lib.hid (rcount_any w0 w s 10000 h)
  have hcr := count_range (m := 10000) (by decide) s
  have hroom := (count_room 10000 s).1
  have HST := Lib.hid step_pair
  unfold xPairs
  clear h
  generalize xCount 10000 s = p at HC hcr hroom ⊢
  obtain ⟨n, S⟩ := p
  obtain ⟨N, rfl⟩ : ∃ N : Nat, n = N := ⟨n.toNat, by simp only at hcr; omega⟩
  simp only [Int.toNat_natCast] at hcr hroom ⊢
  have hN : N ≤ 10000 := by omega
  have HSR := Lib.hid (show xr S ≤ 850000 by omega)
  clear hcr hroom hr
  go_enter Tryz.func64, Tryz.ntmps64
  go_wp2_with fail
  refine HC.out.mono ?_; rintro e w1 ⟨rfl, hI⟩
  have HI1 := Lib.hid hI
  clear hI
  go_wp2_with fail
  go_loopw [5, 5] (fun i _ wr => ∃ (j : Nat) (x : XS), j ≤ N ∧ i = .int .i64 j ∧ xRep N xPair S = xRep (N - j) xPair x ∧ ((x.bad = false → xr x ≤ 850000) ∧ xr x ≤ 850000 + 1) ∧ IsR w0 wr x) (fun i _ _ => N - (RowKit.intOf i).toNat)
  case atStart => exact ⟨0, S, Nat.zero_le _, rfl, rfl, ⟨fun _ => HSR.out, Nat.le_trans HSR.out (by decide)⟩, HI1.out⟩
  case round =>
    obtain ⟨j, x, hj, rfl, hk, hrm, tv, nv, hW⟩ := hrel
    have HK := Lib.hid hk
    have c3 := hW.c3
    have HW := Lib.hid hW
    have HR8 := Lib.hid hrm.2
    have HR9 := Lib.hid (Nat.le_trans hrm.2 (show 850000 + 1 ≤ 900000 by decide))
    clear hk hW
    by_cases hlt : j < N
    · have hlt' : (j : Int) < N := by omega
      cases hb : x.bad with
      | true =>
        have HE := Lib.hid (HK.out.trans (rep_bad hb _))
        rw [hb] at c3
        clear hrm
        have c2 := HW.out.c2
        have f2 := HW.out.f2
        have f3 := HW.out.f3
        have hsz : x.B.length ≤ 950000 := by have := xr_len x; have h3 := HR9.out; omega
        have HP := Lib.hid ((HW.out.put3 true).put2 (x.B ++ [0]))
        rw [← cat_two, show (⟨([0] : Bs).toArray⟩ : ByteArray) = { data := #[0] } from rfl] at HP
        have HV := Lib.hid (show xZero { x with bad := x.bad || decide ((N : Int) % 2 = 1) } = { x with bad := true, B := x.B ++ [0] } by rw [hb]; rfl)
        clear hb
        go_wp2_with fail
        go_end0
        exact ⟨rfl, by rw [HE.out, HV.out]; exact ⟨_, _, HP.out⟩⟩
      | false =>
        have hr0 := hrm.1 hb
        have HNX := Lib.hid (show xRep (N - j) xPair x = xRep (N - (j + 1)) xPair (xPair x) from by
          rw [show N - j = (N - (j + 1)) + 1 by omega, xRep, if_neg (by rw [hb]; decide)])
        have HRM := Lib.hid (show ((xPair x).bad = false → xr (xPair x) ≤ 850000) ∧ xr (xPair x) ≤ 850000 + 1 from
          ⟨fun h => Nat.le_trans (HST.out.good x h) hr0, Nat.le_trans (HST.out.room x) (by omega)⟩)
        have HT := Lib.hid (rtext_any w0 wr x ⟨_, _, HW.out⟩)
        have hx := xtext_size HR9.out
        have HEN2 := Lib.hid (show xPair x = xEnded (xText x).1 { (xText x).2 with bad := (xText x).2.bad || decide ((xText x).1 = []) } from rfl)
        rw [HEN2.out] at HNX HRM
        generalize xText x = p at HT hx HNX HRM
        obtain ⟨t, s4⟩ := p
        simp only at HNX HRM hx
        have hx1 := hx.1
        have hx2 := hx.2
        have hts : (⟨t.toArray⟩ : ByteArray).size ≤ 900000 := by rw [bsize]; exact hx.1
        have HE := Lib.hid (fun w (h : IsR w0 w { s4 with bad := s4.bad || decide (t = []) }) => rended_any w0 w { s4 with bad := s4.bad || decide (t = []) } ⟨t.toArray⟩ (by omega) (Nat.le_trans hx2 (by decide)) h)
        have HB := Lib.hid (show bytes (⟨t.toArray⟩ : ByteArray) = t by simp [bytes])
        rw [HB.out] at HE
        have HNE := Lib.hid (show ((⟨t.toArray⟩ : ByteArray).toList == ([] : List UInt8)) = decide (t = []) from by
          rw [toList_eq]
          show (t == []) = decide (t = [])
          cases t <;> simp)
        rw [hb] at c3
        clear hx hrm hb hr0 HEN2
        go_wp2_with fail
        refine HT.out.mono ?_; rintro e w3 ⟨rfl, tv3, nv3, hW3⟩
        have c3 := hW3.c3
        have f3 := hW3.f3
        have HP3 := Lib.hid (hW3.put3 (s4.bad || decide (t = [])))
        clear hW3
        have hne := HNE.out
        generalize decide (t = []) = q at HE HP3 hne HNX HRM
        generalize (⟨t.toArray⟩ : ByteArray) = tb at HE hne hts
        generalize s4.bad = b4 at c3 HP3 HE HNX HRM
        cases b4 with
        | true =>
          rw [Bool.true_or] at HE HP3 HNX HRM
          cases q with
          | true =>
            go_wp2_with fail
            refine (HE.out _ ⟨_, _, HP3.out⟩).mono ?_; rintro e w6 ⟨rfl, hI⟩
            have HI6 := Lib.hid hI
            clear hI
            go_wp2_with fail
            go_roundw
            case measure => first | omega | (simp [RowKit.intOf]; omega)
            case rel => exact ⟨j + 1, _, by omega, by go_num, HK.out.trans HNX.out, HRM.out, HI6.out⟩
          | false =>
            go_wp2_with fail
            refine (HE.out _ ⟨_, _, HP3.out⟩).mono ?_; rintro e w6 ⟨rfl, hI⟩
            have HI6 := Lib.hid hI
            clear hI
            go_wp2_with fail
            go_roundw
            case measure => first | omega | (simp [RowKit.intOf]; omega)
            case rel => exact ⟨j + 1, _, by omega, by go_num, HK.out.trans HNX.out, HRM.out, HI6.out⟩
        | false =>
          rw [Bool.false_or] at HE HP3 HNX HRM
          cases q with
          | true =>
            go_wp2_with fail
            refine (HE.out _ ⟨_, _, HP3.out⟩).mono ?_; rintro e w6 ⟨rfl, hI⟩
            have HI6 := Lib.hid hI
            clear hI
            go_wp2_with fail
            go_roundw
            case measure => first | omega | (simp [RowKit.intOf]; omega)
            case rel => exact ⟨j + 1, _, by omega, by go_num, HK.out.trans HNX.out, HRM.out, HI6.out⟩
          | false =>
            go_wp2_with fail
            refine (HE.out _ ⟨_, _, HP3.out⟩).mono ?_; rintro e w6 ⟨rfl, hI⟩
            have HI6 := Lib.hid hI
            clear hI
            go_wp2_with fail
            go_roundw
            case measure => first | omega | (simp [RowKit.intOf]; omega)
            case rel => exact ⟨j + 1, _, by omega, by go_num, HK.out.trans HNX.out, HRM.out, HI6.out⟩
    · obtain rfl : j = N := by omega
      have HE := Lib.hid (show xRep j xPair S = x from by have := HK.out; rw [Nat.sub_self] at this; exact this)
      clear hrm hlt
      have c2 := HW.out.c2
      have f2 := HW.out.f2
      have f3 := HW.out.f3
      have hsz : x.B.length ≤ 950000 := by have := xr_len x; have h3 := HR9.out; omega
      have HP := Lib.hid ((HW.out.put3 (x.bad || decide ((j : Int) % 2 = 1))).put2 (x.B ++ [0]))
      rw [← cat_two, show (⟨([0] : Bs).toArray⟩ : ByteArray) = { data := #[0] } from rfl] at HP
      have HV := Lib.hid (show xZero { x with bad := x.bad || decide ((j : Int) % 2 = 1) } = { x with bad := x.bad || decide ((j : Int) % 2 = 1), B := x.B ++ [0] } from rfl)
      have hmod : (j : Int).tmod 2 = (j : Int) % 2 := Int.tmod_eq_emod_of_nonneg (by omega)
      generalize hq : decide ((j : Int) % 2 = 1) = q at HP HV
      have hq2 : ((j : Int) % 2 == 1) = q := by rw [← hq]; by_cases h : (j : Int) % 2 = 1 <;> simp [h]
      have HQ := Lib.hid hq
      clear hq
      cases hb : x.bad with
      | true =>
        rw [hb] at c3
        rw [hb, Bool.true_or] at HP HV
        have HBB := Lib.hid hb
        clear hb
        go_wp2_with fail
        go_end0
        exact ⟨rfl, by rw [HE.out, HQ.out, HBB.out, Bool.true_or, HV.out]; exact ⟨_, _, HP.out⟩⟩
      | false =>
        rw [hb] at c3
        rw [hb, Bool.false_or] at HP HV
        have HBB := Lib.hid hb
        clear hb
        go_wp2_with fail
        go_end0
        exact ⟨rfl, by rw [HE.out, HQ.out, HBB.out, Bool.false_or, HV.out]; exact ⟨_, _, HP.out⟩⟩
end Go.Proofs.YtmofnkinclckoaaGreatDoor

namespace Go.Proofs.YtmofnkinclckoaaGreatDoor
open Go.RowKit Go.Lib Go.WideShapes

set_option maxRecDepth 100000 in
set_option maxHeartbeats 4000000 in
theorem rfield_99 (w0 w : World) (s : XS) (hr : xr s ≤ 850000) (h : IsR w0 w s) :
    Calls Tryz.prog 64 #[.pointer (some ⟨w0.heap.size, 0, none⟩), .int .u8 99] w (ROut w0 (xRow 99 s)) := by
  have HR := Lib.hid (rrow_99 w0 w s hr h)
  clear h hr
  go_enter Tryz.func64, Tryz.ntmps64
  go_wp2_with fail
  refine HR.out.mono ?_; rintro e w2 ⟨rfl, hI⟩
  have HI2 := Lib.hid hI
  clear hI
  go_wp2_with fail
  go_end0
  exact ⟨rfl, HI2.out⟩

set_option maxRecDepth 100000 in
set_option maxHeartbeats 4000000 in
theorem rfield_108 (w0 w : World) (s : XS) (hr : xr s ≤ 850000) (h : IsR w0 w s) :
    Calls Tryz.prog 64 #[.pointer (some ⟨w0.heap.size, 0, none⟩), .int .u8 108] w (ROut w0 (xRow 108 s)) := by
  have HR := Lib.hid (rrow_108 w0 w s hr h)
  clear h hr
  go_enter Tryz.func64, Tryz.ntmps64
  go_wp2_with fail
  refine HR.out.mono ?_; rintro e w2 ⟨rfl, hI⟩
  have HI2 := Lib.hid hI
  clear hI
  go_wp2_with fail
  go_end0
  exact ⟨rfl, HI2.out⟩

set_option maxRecDepth 100000 in
set_option maxHeartbeats 4000000 in
theorem rfield_109 (w0 w : World) (s : XS) (hr : xr s ≤ 850000) (h : IsR w0 w s) :
    Calls Tryz.prog 64 #[.pointer (some ⟨w0.heap.size, 0, none⟩), .int .u8 109] w (ROut w0 (xRow 109 s)) := by
  have HR := Lib.hid (rrow_109 w0 w s hr h)
  clear h hr
  go_enter Tryz.func64, Tryz.ntmps64
  go_wp2_with fail
  refine HR.out.mono ?_; rintro e w2 ⟨rfl, hI⟩
  have HI2 := Lib.hid hI
  clear hI
  go_wp2_with fail
  go_end0
  exact ⟨rfl, HI2.out⟩

set_option maxRecDepth 100000 in
set_option maxHeartbeats 4000000 in
theorem rfield_118 (w0 w : World) (s : XS) (hr : xr s ≤ 850000) (h : IsR w0 w s) :
    Calls Tryz.prog 64 #[.pointer (some ⟨w0.heap.size, 0, none⟩), .int .u8 118] w (ROut w0 (xRow 118 s)) := by
  have HR := Lib.hid (rrow_118 w0 w s hr h)
  clear h hr
  go_enter Tryz.func64, Tryz.ntmps64
  go_wp2_with fail
  refine HR.out.mono ?_; rintro e w2 ⟨rfl, hI⟩
  have HI2 := Lib.hid hI
  clear hI
  go_wp2_with fail
  go_end0
  exact ⟨rfl, HI2.out⟩

theorem rfield_any (w0 w : World) (s : XS) (c : UInt8) (hc : letter c = true) (hr : xr s ≤ 850000) (h : IsR w0 w s) :
    Calls Tryz.prog 64 #[.pointer (some ⟨w0.heap.size, 0, none⟩), .int .u8 (c.toNat : Nat)] w (ROut w0 (xField c s)) := by
  have hm : c = 115 ∨ c = 98 ∨ c = 105 ∨ c = 112 ∨ c = 102 ∨ c = 99 ∨ c = 108 ∨ c = 118 ∨ c = 109 := by
    simpa [letter] using hc
  rcases hm with rfl | rfl | rfl | rfl | rfl | rfl | rfl | rfl | rfl
  · exact rfield_text w0 w s (by omega) h
  · exact rfield_byte w0 w s (by omega) h
  · exact rfield_long w0 w s (by omega) h
  · exact rfield_112 w0 w s hr h
  · exact rfield_102 w0 w s hr h
  · exact rfield_99 w0 w s hr h
  · exact rfield_108 w0 w s hr h
  · exact rfield_118 w0 w s hr h
  · exact rfield_109 w0 w s hr h
end Go.Proofs.YtmofnkinclckoaaGreatDoor
