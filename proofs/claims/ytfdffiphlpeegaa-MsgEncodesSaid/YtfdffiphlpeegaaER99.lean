/- The document's own writer: a row of the letter 99. -/
import Derived.Test.YtfdffiphlpeegaaER
namespace Go.Proofs.Ytfdffiphlpeegaa
open Go.RowKit Go.Lib Go.WideShapes

set_option maxRecDepth 100000 in
set_option maxHeartbeats 8000000 in
theorem rrow_99 (w0 w : World) (s : XS) (hr : xr s ≤ 850000) (h : IsR w0 w s) :
    Calls Try.prog 33 #[.pointer (some ⟨w0.heap.size, 0, none⟩), .int .u8 99] w (ROut w0 (xRow 99 s)) := by
  have HC := Lib.hid (rcount_any w0 w s 100 h)
  have hcr := count_range (m := 100) (by decide) s
  have hroom := (count_room 100 s).1
  have hF : xOne 99 = xNumF (-32768) 32767 2 := rfl
  unfold xRow
  rw [hF]
  have HST := Lib.hid (hF ▸ step_one 99)
  clear h hF
  generalize xCount 100 s = p at HC hcr hroom ⊢
  obtain ⟨n, s1⟩ := p
  obtain ⟨N, rfl⟩ : ∃ N : Nat, n = N := ⟨n.toNat, by simp only at hcr; omega⟩
  simp only [Int.toNat_natCast] at hcr hroom ⊢
  have hN : N ≤ 100 := by omega
  have hS0 := xr_number (N : Int) 2 0 100 s1
  have HL := Lib.hid (show s1.B.length ≤ 1000000 by have := xr_len s1; omega)
  have HSR := Lib.hid (show xr (xNumber (N : Int) 2 0 100 s1) ≤ 850002 by omega)
  obtain ⟨S, hS⟩ : ∃ S, S = xNumber (N : Int) 2 0 100 s1 := ⟨_, rfl⟩
  rw [← hS] at HSR ⊢
  have HS := Lib.hid hS
  clear hcr hroom hS0 hr hS
  go_enter Try.func33, Try.ntmps33
  go_wp2_with fail
  refine HC.out.mono ?_; rintro e w1 ⟨rfl, hI⟩
  have HI1 := Lib.hid hI
  clear hI
  go_wp2_with fail
  refine (rnumber_any w0 w1 s1 N 0 100 2 (by decide) (by decide) (by decide) HL.out HI1.out).mono ?_; rintro e w2 ⟨rfl, hI⟩
  rw [← HS.out] at hI
  have HI2 := Lib.hid hI
  clear hI
  go_wp2_with fail
  go_loopw [5, 5] (fun i _ wr => ∃ (j : Nat) (x : XS), j ≤ N ∧ i = .int .i64 j ∧ xRep N (xNumF (-32768) 32767 2) S = xRep (N - j) (xNumF (-32768) 32767 2) x ∧ ((x.bad = false → xr x ≤ 850002) ∧ xr x ≤ 850021) ∧ IsR w0 wr x) (fun i _ _ => N - (RowKit.intOf i).toNat)
  case atStart => exact ⟨0, S, Nat.zero_le _, rfl, rfl, ⟨fun _ => HSR.out, Nat.le_trans HSR.out (by decide)⟩, HI2.out⟩
  case round =>
    obtain ⟨j, x, hj, rfl, hk, hrm, tv, nv, hW⟩ := hrel
    have HK := Lib.hid hk
    have c3 := hW.c3
    have HW := Lib.hid hW
    have HR8 := Lib.hid hrm.2
    have HR9 := Lib.hid (Nat.le_trans hrm.2 (show 850021 ≤ 900000 by decide))
    clear hk hW
    by_cases hlt : j < N
    · have hlt' : (j : Int) < N := by omega
      cases hb : x.bad with
      | true =>
        have HE := Lib.hid (HK.out.trans (rep_bad hb _))
        rw [hb] at c3
        clear hrm hb
        go_wp2_with fail
        go_end0
        exact ⟨rfl, by rw [HE.out]; exact ⟨_, _, HW.out⟩⟩
      | false =>
        have hr0 := hrm.1 hb
        have HNX := Lib.hid (show xRep (N - j) (xNumF (-32768) 32767 2) x = xRep (N - (j + 1)) (xNumF (-32768) 32767 2) (xNumF (-32768) 32767 2 x) from by
          rw [show N - j = (N - (j + 1)) + 1 by omega, xRep, if_neg (by rw [hb]; decide)])
        have HRM := Lib.hid (show ((xNumF (-32768) 32767 2 x).bad = false → xr (xNumF (-32768) 32767 2 x) ≤ 850002) ∧ xr (xNumF (-32768) 32767 2 x) ≤ 850021 from
          ⟨fun h => Nat.le_trans (HST.out.good x h) hr0, Nat.le_trans (HST.out.room x) (by omega)⟩)
        rw [hb] at c3
        clear hrm hb hr0
        go_wp2_with fail
        refine (rfield_short w0 _ x HR9.out ⟨_, _, HW.out⟩).mono ?_; rintro e w3 ⟨rfl, hI⟩
        have HI3 := Lib.hid hI
        clear hI
        go_wp2_with fail
        go_roundw
        case measure => first | omega | (simp [RowKit.intOf]; omega)
        case rel => exact ⟨j + 1, _, by omega, by go_num, (HK.out.trans (HNX.out)), HRM.out, HI3.out⟩
    · obtain rfl : j = N := by omega
      have HE := Lib.hid (show xRep j (xNumF (-32768) 32767 2) S = x from by have := HK.out; rw [Nat.sub_self] at this; exact this)
      clear hrm hlt
      go_wp2_with fail
      go_end0
      exact ⟨rfl, by rw [HE.out]; exact ⟨_, _, HW.out⟩⟩
end Go.Proofs.Ytfdffiphlpeegaa
