/- The document's own writer: the field of the letter 112. -/
import Derived.Test.YtfdffiphlpeegaaER
import Derived.Test.YtfdffiphlpeegaaPlain
namespace Go.Proofs.Ytfdffiphlpeegaa
open Go.RowKit Go.Lib Go.WideShapes

set_option maxRecDepth 100000 in
set_option maxHeartbeats 8000000 in
theorem rfield_112 (w0 w : World) (s : XS) (hr : xr s ≤ 850000) (h : IsR w0 w s) :
    Calls Try.prog 19 #[.pointer (some ⟨w0.heap.size, 0, none⟩), .int .u8 112] w (ROut w0 (xPairs s)) := by
  have HC := Lib.hid (rcount_any w0 w s 10000 h)
  have hcr := count_range (m := 10000) (by decide) s
  have hroom := (count_room 10000 s).1
  have HST := Lib.hid step_pair
  unfold xPairs
  clear h
  generalize xCount 10000 s = p at HC hcr hroom ⊢
  obtain ⟨n, S⟩ := p
  obtain ⟨N, rfl⟩ : ∃ N : Nat, n = N := ⟨n.toNat, by simp only at hcr; omega⟩
  simp only [Int.toNat_natCast] at hcr hroom ⊢
  have hN : N ≤ 10000 := by omega
  have HSR := Lib.hid (show xr S ≤ 850000 by omega)
  clear hcr hroom hr
  go_enter Try.func19, Try.ntmps19
  go_wp2_with fail
  refine HC.out.mono ?_; rintro e w1 ⟨rfl, hI⟩
  have HI1 := Lib.hid hI
  clear hI
  go_wp2_with fail
  go_loopw [5, 5] (fun i _ wr => ∃ (j : Nat) (x : XS), j ≤ N ∧ i = .int .i64 j ∧ xRep N xPair S = xRep (N - j) xPair x ∧ ((x.bad = false → xr x ≤ 850000) ∧ xr x ≤ 850000 + 1) ∧ IsR w0 wr x) (fun i _ _ => N - (RowKit.intOf i).toNat)
  case atStart => exact ⟨0, S, Nat.zero_le _, rfl, rfl, ⟨fun _ => HSR.out, Nat.le_trans HSR.out (by decide)⟩, HI1.out⟩
  case round =>
    obtain ⟨j, x, hj, rfl, hk, hrm, tv, nv, hW⟩ := hrel
    have HK := Lib.hid hk
    have c3 := hW.c3
    have HW := Lib.hid hW
    have HR8 := Lib.hid hrm.2
    have HR9 := Lib.hid (Nat.le_trans hrm.2 (show 850000 + 1 ≤ 900000 by decide))
    clear hk hW
    by_cases hlt : j < N
    · have hlt' : (j : Int) < N := by omega
      cases hb : x.bad with
      | true =>
        have HE := Lib.hid (HK.out.trans (rep_bad hb _))
        rw [hb] at c3
        clear hrm
        have c2 := HW.out.c2
        have f2 := HW.out.f2
        have f3 := HW.out.f3
        have hsz : x.B.length ≤ 950000 := by have := xr_len x; have h3 := HR9.out; omega
        have HP := Lib.hid ((HW.out.put3 true).put2 (x.B ++ [0]))
        rw [← cat_two, show (⟨([0] : Bs).toArray⟩ : ByteArray) = { data := #[0] } from rfl] at HP
        have HV := Lib.hid (show xZero { x with bad := x.bad || decide ((N : Int) % 2 = 1) } = { x with bad := true, B := x.B ++ [0] } by rw [hb]; rfl)
        clear hb
        go_wp2_with fail
        go_end0
        exact ⟨rfl, by rw [HE.out, HV.out]; exact ⟨_, _, HP.out⟩⟩
      | false =>
        have hr0 := hrm.1 hb
        have HNX := Lib.hid (show xRep (N - j) xPair x = xRep (N - (j + 1)) xPair (xPair x) from by
          rw [show N - j = (N - (j + 1)) + 1 by omega, xRep, if_neg (by rw [hb]; decide)])
        have HRM := Lib.hid (show ((xPair x).bad = false → xr (xPair x) ≤ 850000) ∧ xr (xPair x) ≤ 850000 + 1 from
          ⟨fun h => Nat.le_trans (HST.out.good x h) hr0, Nat.le_trans (HST.out.room x) (by omega)⟩)
        have HT := Lib.hid (rtext_any w0 wr x ⟨_, _, HW.out⟩)
        have hx := xtext_size HR9.out
        have HEN2 := Lib.hid (show xPair x = xEnded (xText x).1 { (xText x).2 with bad := (xText x).2.bad || decide ((xText x).1 = []) } from rfl)
        rw [HEN2.out] at HNX HRM
        generalize xText x = p at HT hx HNX HRM
        obtain ⟨t, s4⟩ := p
        simp only at HNX HRM hx
        have hx1 := hx.1
        have hx2 := hx.2
        have hts : (⟨t.toArray⟩ : ByteArray).size ≤ 900000 := by rw [bsize]; exact hx.1
        have HE := Lib.hid (fun w (h : IsR w0 w { s4 with bad := s4.bad || decide (t = []) }) => rended_any w0 w { s4 with bad := s4.bad || decide (t = []) } ⟨t.toArray⟩ (by omega) (Nat.le_trans hx2 (by decide)) h)
        have HB := Lib.hid (show bytes (⟨t.toArray⟩ : ByteArray) = t by simp [bytes])
        rw [HB.out] at HE
        have HNE := Lib.hid (show ((⟨t.toArray⟩ : ByteArray).toList == ([] : List UInt8)) = decide (t = []) from by
          rw [toList_eq]
          show (t == []) = decide (t = [])
          cases t <;> simp)
        rw [hb] at c3
        clear hx hrm hb hr0 HEN2
        go_wp2_with fail
        refine HT.out.mono ?_; rintro e w3 ⟨rfl, tv3, nv3, hW3⟩
        have c3 := hW3.c3
        have f3 := hW3.f3
        have HP3 := Lib.hid (hW3.put3 (s4.bad || decide (t = [])))
        clear hW3
        have hne := HNE.out
        generalize decide (t = []) = q at HE HP3 hne HNX HRM
        generalize (⟨t.toArray⟩ : ByteArray) = tb at HE hne hts
        generalize s4.bad = b4 at c3 HP3 HE HNX HRM
        cases b4 with
        | true =>
          rw [Bool.true_or] at HE HP3 HNX HRM
          cases q with
          | true =>
            go_wp2_with fail
            refine (HE.out _ ⟨_, _, HP3.out⟩).mono ?_; rintro e w6 ⟨rfl, hI⟩
            have HI6 := Lib.hid hI
            clear hI
            go_wp2_with fail
            go_roundw
            case measure => first | omega | (simp [RowKit.intOf]; omega)
            case rel => exact ⟨j + 1, _, by omega, by go_num, HK.out.trans HNX.out, HRM.out, HI6.out⟩
          | false =>
            go_wp2_with fail
            refine (HE.out _ ⟨_, _, HP3.out⟩).mono ?_; rintro e w6 ⟨rfl, hI⟩
            have HI6 := Lib.hid hI
            clear hI
            go_wp2_with fail
            go_roundw
            case measure => first | omega | (simp [RowKit.intOf]; omega)
            case rel => exact ⟨j + 1, _, by omega, by go_num, HK.out.trans HNX.out, HRM.out, HI6.out⟩
        | false =>
          rw [Bool.false_or] at HE HP3 HNX HRM
          cases q with
          | true =>
            go_wp2_with fail
            refine (HE.out _ ⟨_, _, HP3.out⟩).mono ?_; rintro e w6 ⟨rfl, hI⟩
            have HI6 := Lib.hid hI
            clear hI
            go_wp2_with fail
            go_roundw
            case measure => first | omega | (simp [RowKit.intOf]; omega)
            case rel => exact ⟨j + 1, _, by omega, by go_num, HK.out.trans HNX.out, HRM.out, HI6.out⟩
          | false =>
            go_wp2_with fail
            refine (HE.out _ ⟨_, _, HP3.out⟩).mono ?_; rintro e w6 ⟨rfl, hI⟩
            have HI6 := Lib.hid hI
            clear hI
            go_wp2_with fail
            go_roundw
            case measure => first | omega | (simp [RowKit.intOf]; omega)
            case rel => exact ⟨j + 1, _, by omega, by go_num, HK.out.trans HNX.out, HRM.out, HI6.out⟩
    · obtain rfl : j = N := by omega
      have HE := Lib.hid (show xRep j xPair S = x from by have := HK.out; rw [Nat.sub_self] at this; exact this)
      clear hrm hlt
      have c2 := HW.out.c2
      have f2 := HW.out.f2
      have f3 := HW.out.f3
      have hsz : x.B.length ≤ 950000 := by have := xr_len x; have h3 := HR9.out; omega
      have HP := Lib.hid ((HW.out.put3 (x.bad || decide ((j : Int) % 2 = 1))).put2 (x.B ++ [0]))
      rw [← cat_two, show (⟨([0] : Bs).toArray⟩ : ByteArray) = { data := #[0] } from rfl] at HP
      have HV := Lib.hid (show xZero { x with bad := x.bad || decide ((j : Int) % 2 = 1) } = { x with bad := x.bad || decide ((j : Int) % 2 = 1), B := x.B ++ [0] } from rfl)
      have hmod : (j : Int).tmod 2 = (j : Int) % 2 := Int.tmod_eq_emod_of_nonneg (by omega)
      generalize hq : decide ((j : Int) % 2 = 1) = q at HP HV
      have hq2 : ((j : Int) % 2 == 1) = q := by rw [← hq]; by_cases h : (j : Int) % 2 = 1 <;> simp [h]
      have HQ := Lib.hid hq
      clear hq
      cases hb : x.bad with
      | true =>
        rw [hb] at c3
        rw [hb, Bool.true_or] at HP HV
        have HBB := Lib.hid hb
        clear hb
        go_wp2_with fail
        go_end0
        exact ⟨rfl, by rw [HE.out, HQ.out, HBB.out, Bool.true_or, HV.out]; exact ⟨_, _, HP.out⟩⟩
      | false =>
        rw [hb] at c3
        rw [hb, Bool.false_or] at HP HV
        have HBB := Lib.hid hb
        clear hb
        go_wp2_with fail
        go_end0
        exact ⟨rfl, by rw [HE.out, HQ.out, HBB.out, Bool.false_or, HV.out]; exact ⟨_, _, HP.out⟩⟩
end Go.Proofs.Ytfdffiphlpeegaa
