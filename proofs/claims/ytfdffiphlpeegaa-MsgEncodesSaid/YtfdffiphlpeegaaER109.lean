/- The document's own writer: a row of the letter 109. -/
import Derived.Test.YtfdffiphlpeegaaER
namespace Go.Proofs.Ytfdffiphlpeegaa
open Go.RowKit Go.Lib Go.WideShapes

set_option maxRecDepth 100000 in
set_option maxHeartbeats 8000000 in
theorem rrow_109 (w0 w : World) (s : XS) (hr : xr s ≤ 850000) (h : IsR w0 w s) :
    Calls Try.prog 33 #[.pointer (some ⟨w0.heap.size, 0, none⟩), .int .u8 109] w (ROut w0 (xRow 109 s)) := by
  have HC := Lib.hid (rcount_any w0 w s 100 h)
  have hcr := count_range (m := 100) (by decide) s
  have hroom := (count_room 100 s).1
  have hF : xOne 109 = xName := rfl
  unfold xRow
  rw [hF]
  have HST := Lib.hid (hF ▸ step_one 109)
  clear h hF
  generalize xCount 100 s = p at HC hcr hroom ⊢
  obtain ⟨n, s1⟩ := p
  obtain ⟨N, rfl⟩ : ∃ N : Nat, n = N := ⟨n.toNat, by simp only at hcr; omega⟩
  simp only [Int.toNat_natCast] at hcr hroom ⊢
  have hN : N ≤ 100 := by omega
  have hS0 := xr_number (N : Int) 2 0 100 s1
  have HL := Lib.hid (show s1.B.length ≤ 1000000 by have := xr_len s1; omega)
  have HSR := Lib.hid (show xr (xNumber (N : Int) 2 0 100 s1) ≤ 850002 by omega)
  obtain ⟨S, hS⟩ : ∃ S, S = xNumber (N : Int) 2 0 100 s1 := ⟨_, rfl⟩
  rw [← hS] at HSR ⊢
  have HS := Lib.hid hS
  clear hcr hroom hS0 hr hS
  go_enter Try.func33, Try.ntmps33
  go_wp2_with fail
  refine HC.out.mono ?_; rintro e w1 ⟨rfl, hI⟩
  have HI1 := Lib.hid hI
  clear hI
  go_wp2_with fail
  refine (rnumber_any w0 w1 s1 N 0 100 2 (by decide) (by decide) (by decide) HL.out HI1.out).mono ?_; rintro e w2 ⟨rfl, hI⟩
  rw [← HS.out] at hI
  have HI2 := Lib.hid hI
  clear hI
  go_wp2_with fail
  go_loopw [5, 5] (fun i _ wr => ∃ (j : Nat) (x : XS), j ≤ N ∧ i = .int .i64 j ∧ xRep N (xName) S = xRep (N - j) (xName) x ∧ ((x.bad = false → xr x ≤ 850002) ∧ xr x ≤ 850021) ∧ IsR w0 wr x) (fun i _ _ => N - (RowKit.intOf i).toNat)
  case atStart => exact ⟨0, S, Nat.zero_le _, rfl, rfl, ⟨fun _ => HSR.out, Nat.le_trans HSR.out (by decide)⟩, HI2.out⟩
  case round =>
    obtain ⟨j, x, hj, rfl, hk, hrm, tv, nv, hW⟩ := hrel
    have HK := Lib.hid hk
    have c3 := hW.c3
    have HW := Lib.hid hW
    have HR8 := Lib.hid hrm.2
    have HR9 := Lib.hid (Nat.le_trans hrm.2 (show 850021 ≤ 900000 by decide))
    clear hk hW
    by_cases hlt : j < N
    · have hlt' : (j : Int) < N := by omega
      cases hb : x.bad with
      | true =>
        have HE := Lib.hid (HK.out.trans (rep_bad hb _))
        rw [hb] at c3
        clear hrm hb
        go_wp2_with fail
        go_end0
        exact ⟨rfl, by rw [HE.out]; exact ⟨_, _, HW.out⟩⟩
      | false =>
        have hr0 := hrm.1 hb
        have HNX := Lib.hid (show xRep (N - j) (xName) x = xRep (N - (j + 1)) (xName) (xName x) from by
          rw [show N - j = (N - (j + 1)) + 1 by omega, xRep, if_neg (by rw [hb]; decide)])
        have HRM := Lib.hid (show ((xName x).bad = false → xr (xName x) ≤ 850002) ∧ xr (xName x) ≤ 850021 from
          ⟨fun h => Nat.le_trans (HST.out.good x h) hr0, Nat.le_trans (HST.out.room x) (by omega)⟩)
        rw [hb] at c3
        clear hrm hb hr0
        go_wp2_with fail
        have HX := Lib.hid (rtext_any w0 wr x ⟨_, _, HW.out⟩)
        have hx := xtext_size HR9.out
        have HEN := Lib.hid (show xEndText x = xEnded (xText x).1 (xText x).2 from rfl)
        generalize xText x = p at HX hx HEN
        obtain ⟨t, s2⟩ := p
        have hts : (⟨t.toArray⟩ : ByteArray).size ≤ 900000 := by rw [bsize]; exact hx.1
        have HE := Lib.hid (fun w (h : IsR w0 w s2) => rended_any w0 w s2 ⟨t.toArray⟩ (by omega) (Nat.le_trans hx.2 (by decide)) h)
        have HB := Lib.hid (show bytes (⟨t.toArray⟩ : ByteArray) = t by simp [bytes])
        rw [HB.out] at HE
        simp only at HEN
        rw [← HEN.out] at HE
        clear hx
        refine HX.out.mono ?_; rintro e w3 ⟨rfl, hI⟩
        have HI3 := Lib.hid hI
        clear hI
        go_wp2_with fail
        refine (HE.out w3 HI3.out).mono ?_; rintro e w4 ⟨rfl, tv4, nv4, hW4⟩
        have c2 := hW4.c2
        have f2 := hW4.f2
        have hsz4 : (xEndText x).B.length ≤ 950000 := by have := xr_len (xEndText x); have h2 := step_endtext.room x; have h3 := HR9.out; omega
        have HP := Lib.hid (hW4.put2 ((xEndText x).B ++ List.replicate 18 0))
        rw [← cat_two, show (⟨(List.replicate 18 (0 : UInt8)).toArray⟩ : ByteArray) = { data := #[0, 0, 0, 0, 0, 0, 0, 0, 0, 0, 0, 0, 0, 0, 0, 0, 0, 0] } from rfl] at HP
        clear hW4
        go_wp2_with fail
        go_roundw
        case measure => first | omega | (simp [RowKit.intOf]; omega)
        case rel => exact ⟨j + 1, _, by omega, by go_num, (HK.out.trans (HNX.out)), HRM.out, ⟨_, _, HP.out⟩⟩
    · obtain rfl : j = N := by omega
      have HE := Lib.hid (show xRep j (xName) S = x from by have := HK.out; rw [Nat.sub_self] at this; exact this)
      clear hrm hlt
      go_wp2_with fail
      go_end0
      exact ⟨rfl, by rw [HE.out]; exact ⟨_, _, HW.out⟩⟩
end Go.Proofs.Ytfdffiphlpeegaa
