/- The document's own writer: the field of the letter 102. -/
import Derived.Test.YtfdffiphlpeegaaER
namespace Go.Proofs.Ytfdffiphlpeegaa
open Go.RowKit Go.Lib Go.WideShapes

set_option maxRecDepth 100000 in
set_option maxHeartbeats 8000000 in
theorem rfield_102 (w0 w : World) (s : XS) (hr : xr s ≤ 850000) (h : IsR w0 w s) :
    Calls Try.prog 19 #[.pointer (some ⟨w0.heap.size, 0, none⟩), .int .u8 102] w (ROut w0 (xFields s)) := by
  have HC := Lib.hid (rcount_any w0 w s 10000 h)
  have hcr := count_range (m := 10000) (by decide) s
  have hroom := (count_room 10000 s).1
  have HST := Lib.hid step_item
  unfold xFields
  clear h
  generalize xCount 10000 s = p at HC hcr hroom ⊢
  obtain ⟨n, S⟩ := p
  obtain ⟨N, rfl⟩ : ∃ N : Nat, n = N := ⟨n.toNat, by simp only at hcr; omega⟩
  simp only [Int.toNat_natCast] at hcr hroom ⊢
  have hN : N ≤ 10000 := by omega
  have HSR := Lib.hid (show xr S ≤ 850000 by omega)
  clear hcr hroom hr
  go_enter Try.func19, Try.ntmps19
  go_wp2_with fail
  refine HC.out.mono ?_; rintro e w1 ⟨rfl, hI⟩
  have HI1 := Lib.hid hI
  clear hI
  go_wp2_with fail
  go_loopw [8, 8] (fun i _ wr => ∃ (j : Nat) (x : XS), j ≤ N ∧ i = .int .i64 j ∧ xRep N xItem S = xRep (N - j) xItem x ∧ ((x.bad = false → xr x ≤ 850000) ∧ xr x ≤ 850000 + 5) ∧ IsR w0 wr x) (fun i _ _ => N - (RowKit.intOf i).toNat)
  case atStart => exact ⟨0, S, Nat.zero_le _, rfl, rfl, ⟨fun _ => HSR.out, Nat.le_trans HSR.out (by decide)⟩, HI1.out⟩
  case round =>
    obtain ⟨j, x, hj, rfl, hk, hrm, tv, nv, hW⟩ := hrel
    have HK := Lib.hid hk
    have c3 := hW.c3
    have HW := Lib.hid hW
    have HR8 := Lib.hid hrm.2
    have HR9 := Lib.hid (Nat.le_trans hrm.2 (show 850000 + 5 ≤ 900000 by decide))
    clear hk hW
    by_cases hlt : j < N
    · have hlt' : (j : Int) < N := by omega
      cases hb : x.bad with
      | true =>
        have HE := Lib.hid (HK.out.trans (rep_bad hb _))
        rw [hb] at c3
        clear hrm
        clear hb
        have c2 := HW.out.c2
        have f2 := HW.out.f2
        have hsz : x.B.length ≤ 950000 := by have := xr_len x; have h3 := HR9.out; omega
        have HP := Lib.hid (HW.out.put2 (x.B ++ [0]))
        rw [← cat_two, show (⟨([0] : Bs).toArray⟩ : ByteArray) = { data := #[0] } from rfl] at HP
        go_wp2_with fail
        go_end0
        exact ⟨rfl, by rw [HE.out]; exact ⟨_, _, HP.out⟩⟩
      | false =>
        have hr0 := hrm.1 hb
        have HNX := Lib.hid (show xRep (N - j) xItem x = xRep (N - (j + 1)) xItem (xItem x) from by
          rw [show N - j = (N - (j + 1)) + 1 by omega, xRep, if_neg (by rw [hb]; decide)])
        have HRM := Lib.hid (show ((xItem x).bad = false → xr (xItem x) ≤ 850000) ∧ xr (xItem x) ≤ 850000 + 5 from
          ⟨fun h => Nat.le_trans (HST.out.good x h) hr0, Nat.le_trans (HST.out.room x) (by omega)⟩)
        have HEN := Lib.hid (show xItem x = xEndText (xNumF 1 255 1 x) from rfl)
        rw [HEN.out] at HNX HRM
        have HX := Lib.hid (rnum_any w0 wr x ⟨_, _, HW.out⟩)
        have HNF := Lib.hid (show xNumF 1 255 1 x = xNumber (xNum x).1 1 1 255 (xNum x).2 from rfl)
        have HNM := Lib.hid (show (xNum x).2.B.length ≤ 1000000 from by
          have : (xNum x).2.B = x.B := by unfold xNum; split <;> rfl
          rw [this]
          have := xr_len x; have h3 := HR9.out
          omega)
        have HVR := Lib.hid (show xr (xNumF 1 255 1 x) ≤ 900000 from by
          have h1 := (step_numf (l := 1) (m := 255) (k := 1) (by decide)).room x
          have h3 := HR8.out
          omega)
        generalize xNum x = p at HX HNF HNM
        obtain ⟨k, s2⟩ := p
        simp only at HNF HNM
        generalize xNumF 1 255 1 x = s3 at HNF HVR HNX HRM
        have HT := Lib.hid (fun w (h : IsR w0 w s3) => rtext_any w0 w s3 h)
        have hx := xtext_size HVR.out
        have HEN2 := Lib.hid (show xEndText s3 = xEnded (xText s3).1 (xText s3).2 from rfl)
        generalize xText s3 = p at HT hx HEN2
        obtain ⟨t, s4⟩ := p
        have hts : (⟨t.toArray⟩ : ByteArray).size ≤ 900000 := by rw [bsize]; exact hx.1
        have HE := Lib.hid (fun w (h : IsR w0 w s4) => rended_any w0 w s4 ⟨t.toArray⟩ (by omega) (Nat.le_trans hx.2 (by decide)) h)
        have HB := Lib.hid (show bytes (⟨t.toArray⟩ : ByteArray) = t by simp [bytes])
        rw [HB.out] at HE
        simp only at HEN2
        rw [← HEN2.out] at HE
        rw [hb] at c3
        clear hx hrm hb hr0
        go_wp2_with fail
        refine HX.out.mono ?_; rintro e w3 ⟨rfl, hI⟩
        have HI3 := Lib.hid hI
        clear hI
        go_wp2_with fail
        refine (rnumber_any w0 w3 s2 k 1 255 1 (by decide) (by decide) (by decide) HNM.out HI3.out).mono ?_; rintro e w4 ⟨rfl, hI⟩
        rw [← HNF.out] at hI
        have HI4 := Lib.hid hI
        clear hI
        go_wp2_with fail
        refine (HT.out w4 HI4.out).mono ?_; rintro e w5 ⟨rfl, hI⟩
        have HI5 := Lib.hid hI
        clear hI
        go_wp2_with fail
        refine (HE.out w5 HI5.out).mono ?_; rintro e w6 ⟨rfl, hI⟩
        have HI6 := Lib.hid hI
        clear hI
        go_wp2_with fail
        go_roundw
        case measure => first | omega | (simp [RowKit.intOf]; omega)
        case rel => exact ⟨j + 1, _, by omega, by go_num, HK.out.trans HNX.out, HRM.out, HI6.out⟩
    · obtain rfl : j = N := by omega
      have HE := Lib.hid (show xRep j xItem S = x from by have := HK.out; rw [Nat.sub_self] at this; exact this)
      clear hrm hlt
      have c2 := HW.out.c2
      have f2 := HW.out.f2
      have hsz : x.B.length ≤ 950000 := by have := xr_len x; have h3 := HR9.out; omega
      have HP := Lib.hid (HW.out.put2 (x.B ++ [0]))
      rw [← cat_two, show (⟨([0] : Bs).toArray⟩ : ByteArray) = { data := #[0] } from rfl] at HP
      go_wp2_with fail
      go_end0
      exact ⟨rfl, by rw [HE.out]; exact ⟨_, _, HP.out⟩⟩
end Go.Proofs.Ytfdffiphlpeegaa
