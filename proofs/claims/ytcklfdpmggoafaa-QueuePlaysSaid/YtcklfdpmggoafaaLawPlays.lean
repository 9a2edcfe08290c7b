/- Any room, any acts: QueuePlays answers true, and leaves what was there as it was. -/
import Derived.Test.YtcklfdpmggoafaaQR
import Derived.Test.YtcklfdpmggoafaaActs
import Derived.Test.YtcklfdpmggoafaaPick
import Derived.Deep.OwnRows
import Derived.Deep.RegionHeld3
namespace Go.Proofs.Ytcklfdpmggoafaa
open Go.RowKit Go.Lib Go.WideShapes Go.ChangeShapes Go.ChangeAt Go.Joins Go.Maps

set_option maxRecDepth 100000 in
theorem plays_early (most : Int) (l0 : Option Addr) (len cap : Nat) (w : World) (h : (200 : Int) < len) :
    Calls Try.prog 3 #[.int .i64 most, .slice l0 len cap] w fun e w' => e = .returned (.bool true) ∧ Below w.heap.size w w' := by
  go_enter Try.func3, Try.ntmps3
  go_wp2_with fail
  refine (shown_true _).mono ?_; rintro e w1 ⟨rfl, hb1⟩
  have HB1 := Lib.hid hb1
  clear hb1
  go_wp2_with fail
  go_ret
  exact ⟨rfl, HB1.out⟩

set_option maxRecDepth 100000 in
theorem plays_none (most : Int) (l0 : Option Addr) (len cap : Nat) (w : World) (h : len ≤ 200) (hm : most < 1 ∨ 1000 < most) :
    Calls Try.prog 3 #[.int .i64 most, .slice l0 len cap] w fun e w' => e = .returned (.bool true) ∧ Below w.heap.size w w' := by
  have HM := Lib.hid hm
  have hlen : (len : Int) ≤ 200 := by omega
  clear hm
  go_enter Try.func3, Try.ntmps3
  go_wp2_with fail
  refine (shown_true _).mono ?_; rintro e w1 ⟨rfl, hb1⟩
  have HB1 := Lib.hid hb1
  clear hb1
  go_wp2_with fail
  refine (new_none most _ HM.out).mono ?_; rintro e w2 ⟨rfl, rfl⟩
  go_wp2_with fail
  refine (rnew_none most _ HM.out).mono ?_; rintro e w3 ⟨rfl, rfl⟩
  go_wp2_with fail
  go_ret
  exact ⟨rfl, HB1.out⟩

section
variable {w0 w : World} {p B pk : Nat} {most : Int} {L L2 : Waits} {N : Nat}
theorem qr_first_none (h : QR w0 w p B pk most [] L2 N) : Calls Try.prog 20 #[.pointer (some ⟨p, 0, none⟩)] w fun e w' => e = .returned (.tuple #[.int .i64 0, .bool false]) ∧ w = w' := by
  obtain ⟨o, o2, h1, _⟩ := h
  exact first_none p B o most N w h1

theorem qr_first_some {q : Int × Int} {T : Waits} (h : QR w0 w p B pk most (q :: T) L2 N) : Calls Try.prog 20 #[.pointer (some ⟨p, 0, none⟩)] w fun e w' => e = .returned (.tuple #[.int .i64 q.1, .bool true]) ∧ w = w' := by
  obtain ⟨o, o2, h1, _⟩ := h
  exact first_some p B o most q T N w h1

theorem below_of {u : Value} {l : List Int} (h : QRU w0 w p B pk most L L2 N u l) : Below w0.heap.size w0 w := by
  obtain ⟨o, o2, _, _, h3, _⟩ := h; exact h3
end

set_option maxRecDepth 100000 in
set_option maxHeartbeats 16000000 in
theorem plays_walk (most : Int) (l0 : Option Addr) (len cap : Nat) (c : Nat → Do) (w : World) (hm : 1 ≤ most ∧ most ≤ 1000) (hlen : len ≤ 200) (hC : len = 0 ∨ ∃ b off, l0 = some ⟨b, off, none⟩ ∧ b < w.heap.size ∧ ActsAt w b off len c) (hcr : ∀ i, i < len → I64 (c i).op ∧ I64 (c i).id ∧ I64 (c i).n) :
    Calls Try.prog 3 #[.int .i64 most, .slice l0 len cap] w fun e w' => e = .returned (.bool true) ∧ Below w.heap.size w w' := by
  have HC := Lib.hid hC; have HCR := Lib.hid hcr; have HM := Lib.hid hm
  have hlen' : (len : Int) ≤ 200 := by omega
  clear hC hcr hm
  go_enter Try.func3, Try.ntmps3
  go_wp2_with fail
  refine (shown_true _).mono ?_; rintro e w1 ⟨rfl, hb1⟩
  have hz1 := hb1.size
  have HB1 := Lib.hid hb1
  clear hb1
  go_wp2_with fail
  refine (new_ok most w1 HM.out).mono ?_; rintro e w2 ⟨rfl, hq2, hb2⟩
  have HQ2 := Lib.hid hq2; have HB2 := Lib.hid hb2
  clear hq2 hb2
  go_wp2_with fail
  refine (rnew_ok most w2 HM.out).mono ?_; rintro e w3 ⟨rfl, hq3, hb3⟩
  have HS := Lib.hid (QR.start (w0 := w1) HQ2.out hq3 HB2.out hb3 ⟨by omega, by omega⟩)
  clear hq3 hb3 HQ2 HB2
  obtain ⟨kp, hpk⟩ : ∃ kp, kp = w2.heap.size := ⟨_, rfl⟩
  rw [← hpk] at HS ⊢
  clear hpk
  go_wp2_with fail
  go_loopw [10, 11] (fun t i wr => ∃ (k : Nat) (T : Int) (L : Waits), k ≤ len ∧ i = .int .i64 k ∧ t = .int .i64 T ∧ 0 ≤ T ∧ T ≤ 5 * k ∧ QR w1 wr (w1.heap.size + 1) w1.heap.size kp most L L k) (fun _ i _ => len - (intOf i).toNat)
  case atStart => exact ⟨0, 0, [], Nat.zero_le _, rfl, rfl, by omega, by omega, HS.out⟩
  case round =>
    obtain ⟨k, T, L, hk, rfl, rfl, hT0, hT1, hQ⟩ := hrel
    have HQ := Lib.hid hQ
    clear hQ HS
    by_cases hlt : k < len
    · obtain ⟨b, off, hl0, hb, hCC⟩ : ∃ b off, l0 = some ⟨b, off, none⟩ ∧ b < w.heap.size ∧ ActsAt w b off len c := HC.out.elim (fun h => by omega) id
      subst hl0
      obtain ⟨hc1, hc2, hc3⟩ := hCC k hlt
      obtain ⟨hr1, hr2, hr3⟩ := HCR.out k hlt
      obtain ⟨⟨zo, zi, zn⟩, hz⟩ : ∃ z, z = c k := ⟨_, rfl⟩
      rw [← hz] at hc1 hc2 hc3 hr1 hr2 hr3
      simp only at hc1 hc2 hc3 hr1 hr2 hr3
      have hW := HB1.out.step HQ.out.below hz1
      have d1 : wr.cell? ⟨b, off + k * 3, none⟩ = some (.int .i64 zo) := (hW.cell (p := ⟨b, off + k * 3, none⟩) hb).trans hc1
      have d2 : wr.cell? ⟨b, off + k * 3 + 1, none⟩ = some (.int .i64 zi) := (hW.cell (p := ⟨b, off + k * 3 + 1, none⟩) hb).trans hc2
      have HD3 := Lib.hid (show ∀ W : World, Below w.heap.size w W → W.cell? ⟨b, off + k * 3 + 2, none⟩ = some (.int .i64 zn) from fun W hB => (hB.cell (p := ⟨b, off + k * 3 + 2, none⟩) hb).trans hc3)
      clear hCC hz hc1 hc2 hc3 hW
      have hlt' : (k : Int) < len := by omega
      have HPI := Lib.hid (fun W => pick_any zi 12 W (by omega) (by omega) hr2)
      have hs1 := pk_lt zi 12 (by omega)
      obtain ⟨s, hs⟩ : ∃ s, s = pk zi 12 := ⟨_, rfl⟩
      rw [← hs] at hs1 HPI
      have HPO := Lib.hid (fun W => pick_any zo 6 W (by omega) (by omega) hr1)
      have ho1 := pk_lt zo 6 (by omega)
      obtain ⟨r, hr⟩ : ∃ r, r = pk zo 6 := ⟨_, rfl⟩
      rw [← hr] at ho1 HPO
      clear hs hr hr1 hr2
      go_wp2_with fail
      refine (HPI.out _).mono ?_; rintro e w' ⟨rfl, rfl⟩
      go_wp2_with fail
      refine (HPO.out _).mono ?_; rintro e w' ⟨rfl, rfl⟩
      clear HPI HPO d1 d2
      have hrr : r = 0 ∨ r = 1 ∨ r = 2 ∨ r = 3 ∨ r = 4 ∨ r = 5 := by omega
      rcases hrr with rfl | rfl | rfl | rfl | rfl | rfl
      · as_aux_lemma =>
          go_wp2_with fail
          by_cases hst : (look L (s : Int)).isSome = true
          · refine (qr_q HQ.out fun o ho => join_state _ _ o _ _ _ (s : Int) T _ ho (by omega) hst).mono ?_; rintro e w4 ⟨rfl, hQ4⟩
            have HQ4 := Lib.hid hQ4
            have ER := Lib.hid (show rj L most (s : Int) T = (L, 6) from by unfold rj; rw [if_pos hst])
            clear hQ4 hst
            go_wp2_with fail
            refine (qr_r HQ4.out fun o ho => rjoin_any _ o _ _ (s : Int) T _ ho (by have := HQ4.out.facts; omega)).mono ?_; rw [ER.out]; rintro e w5 ⟨rfl, hQ5⟩
            have HQ5 := Lib.hid (hQ5.more (show k ≤ k + 1 by omega))
            clear hQ5 HQ4 HQ ER
            obtain ⟨L', hL'⟩ : ∃ L', L' = L := ⟨_, rfl⟩
            rw [← hL'] at HQ5
            clear hL'
            obtain ⟨T', hT'⟩ : ∃ T', T' = T := ⟨_, rfl⟩
            have hT0' : 0 ≤ T' := by omega
            have hT1' : T' ≤ 5 * (k + 1 : Nat) := by omega
            rw [← hT']
            clear hT'
            go_wp2_with fail
            cases L' with
            | nil =>
              refine (qr_first_none HQ5.out).mono ?_; rintro e w' ⟨rfl, rfl⟩
              go_wp2_with fail
              refine (qr_list HQ5.out).mono ?_; rintro e w7 ⟨u, rfl, hU, hQ7⟩
              have HU := Lib.hid hU; have HQ7 := Lib.hid hQ7
              clear hU hQ7 HQ5
              go_wp2_with fail
              refine (qr_rlist HQ7.out HU.out (by simp)).mono ?_; rintro e w8 ⟨u2, rfl, hU2, hU1, hQ8⟩
              have HU1 := Lib.hid hU1; have HU2 := Lib.hid hU2; have HQ8 := Lib.hid hQ8
              clear hU1 hU2 hQ8 HQ7 HU
              go_wp2_with fail
              refine (same_yes _ _ _ _ HU1.out HU2.out).mono ?_; rintro e w9 ⟨rfl, nn, hw9⟩
              have hQ9 : QR w1 w9 (w1.heap.size + 1) w1.heap.size kp most [] [] (k + 1) := by rw [hw9]; exact HQ8.out.grown (below_drewN (Below.refl _ _) nn)
              obtain ⟨ka, kc, hs1, _⟩ := hQ9.shows
              have HQ9 := Lib.hid hQ9
              rw [List.length_nil] at hs1
              clear hw9 hQ9 HQ8 HU1 HU2
              go_wp2_with fail
              go_roundw
              case rel => exact ⟨k + 1, T', [], by omega, by go_num, rfl, hT0', by omega, HQ9.out⟩
              case measure => simp [intOf]; omega
            | cons q M =>
              refine (qr_first_some HQ5.out).mono ?_; rintro e w' ⟨rfl, rfl⟩
              go_wp2_with fail
              refine (qr_list HQ5.out).mono ?_; rintro e w7 ⟨u, rfl, hU, hQ7⟩
              have hl7 := hQ7.facts
              have hl8 : (((q :: M).length : Nat) : Int) ≤ 1000 := by omega
              have HL8 := Lib.hid hl8
              have HU := Lib.hid hU; have HQ7 := Lib.hid hQ7
              clear hU hQ7 HQ5 hl7 hl8
              go_wp2_with fail
              refine (qr_rlist HQ7.out HU.out HL8.out).mono ?_; rintro e w8 ⟨u2, rfl, hU2, hU1, hQ8⟩
              have HU1 := Lib.hid hU1; have HU2 := Lib.hid hU2; have HQ8 := Lib.hid hQ8
              clear hU1 hU2 hQ8 HQ7 HU
              go_wp2_with fail
              refine (same_yes _ _ _ _ HU1.out HU2.out).mono ?_; rintro e w9 ⟨rfl, nn, hw9⟩
              have hQ9 : QR w1 w9 (w1.heap.size + 1) w1.heap.size kp most (q :: M) (q :: M) (k + 1) := by rw [hw9]; exact HQ8.out.grown (below_drewN (Below.refl _ _) nn)
              obtain ⟨ka, kc, hs1, hs2⟩ := hQ9.shows
              obtain ⟨g, rfl, d0⟩ := hs2 q M rfl
              have HQ9 := Lib.hid hQ9
              obtain ⟨n, hn⟩ : ∃ n, n = (q :: M).length := ⟨_, rfl⟩
              have hn0 : (0 : Int) < n := by rw [hn, List.length_cons]; omega
              have hn1 : decide ((0 : Int) < n) = true := decide_eq_true hn0
              rw [← hn] at hs1
              clear hw9 hQ9 HQ8 HU1 HU2 hs2 hn
              go_wp2_with fail
              go_roundw
              case rel => exact ⟨k + 1, T', q :: M, by omega, by go_num, rfl, hT0', by omega, HQ9.out⟩
              case measure => simp [intOf]; omega
          · have hst' : look L (s : Int) = none := by simpa using hst
            by_cases hfu : most ≤ L.length
            · refine (qr_q HQ.out fun o ho => join_full _ _ o _ _ _ (s : Int) T _ ho (by omega) hst' hfu).mono ?_; rintro e w4 ⟨rfl, hQ4⟩
              have HQ4 := Lib.hid hQ4
              have ER := Lib.hid (show rj L most (s : Int) T = (L, 7) from by unfold rj; rw [if_neg hst, if_pos hfu])
              clear hQ4 hst hst' hfu
              go_wp2_with fail
              refine (qr_r HQ4.out fun o ho => rjoin_any _ o _ _ (s : Int) T _ ho (by have := HQ4.out.facts; omega)).mono ?_; rw [ER.out]; rintro e w5 ⟨rfl, hQ5⟩
              have HQ5 := Lib.hid (hQ5.more (show k ≤ k + 1 by omega))
              clear hQ5 HQ4 HQ ER
              obtain ⟨L', hL'⟩ : ∃ L', L' = L := ⟨_, rfl⟩
              rw [← hL'] at HQ5
              clear hL'
              obtain ⟨T', hT'⟩ : ∃ T', T' = T := ⟨_, rfl⟩
              have hT0' : 0 ≤ T' := by omega
              have hT1' : T' ≤ 5 * (k + 1 : Nat) := by omega
              rw [← hT']
              clear hT'
              go_wp2_with fail
              cases L' with
              | nil =>
                refine (qr_first_none HQ5.out).mono ?_; rintro e w' ⟨rfl, rfl⟩
                go_wp2_with fail
                refine (qr_list HQ5.out).mono ?_; rintro e w7 ⟨u, rfl, hU, hQ7⟩
                have HU := Lib.hid hU; have HQ7 := Lib.hid hQ7
                clear hU hQ7 HQ5
                go_wp2_with fail
                refine (qr_rlist HQ7.out HU.out (by simp)).mono ?_; rintro e w8 ⟨u2, rfl, hU2, hU1, hQ8⟩
                have HU1 := Lib.hid hU1; have HU2 := Lib.hid hU2; have HQ8 := Lib.hid hQ8
                clear hU1 hU2 hQ8 HQ7 HU
                go_wp2_with fail
                refine (same_yes _ _ _ _ HU1.out HU2.out).mono ?_; rintro e w9 ⟨rfl, nn, hw9⟩
                have hQ9 : QR w1 w9 (w1.heap.size + 1) w1.heap.size kp most [] [] (k + 1) := by rw [hw9]; exact HQ8.out.grown (below_drewN (Below.refl _ _) nn)
                obtain ⟨ka, kc, hs1, _⟩ := hQ9.shows
                have HQ9 := Lib.hid hQ9
                rw [List.length_nil] at hs1
                clear hw9 hQ9 HQ8 HU1 HU2
                go_wp2_with fail
                go_roundw
                case rel => exact ⟨k + 1, T', [], by omega, by go_num, rfl, hT0', by omega, HQ9.out⟩
                case measure => simp [intOf]; omega
              | cons q M =>
                refine (qr_first_some HQ5.out).mono ?_; rintro e w' ⟨rfl, rfl⟩
                go_wp2_with fail
                refine (qr_list HQ5.out).mono ?_; rintro e w7 ⟨u, rfl, hU, hQ7⟩
                have hl7 := hQ7.facts
                have hl8 : (((q :: M).length : Nat) : Int) ≤ 1000 := by omega
                have HL8 := Lib.hid hl8
                have HU := Lib.hid hU; have HQ7 := Lib.hid hQ7
                clear hU hQ7 HQ5 hl7 hl8
                go_wp2_with fail
                refine (qr_rlist HQ7.out HU.out HL8.out).mono ?_; rintro e w8 ⟨u2, rfl, hU2, hU1, hQ8⟩
                have HU1 := Lib.hid hU1; have HU2 := Lib.hid hU2; have HQ8 := Lib.hid hQ8
                clear hU1 hU2 hQ8 HQ7 HU
                go_wp2_with fail
                refine (same_yes _ _ _ _ HU1.out HU2.out).mono ?_; rintro e w9 ⟨rfl, nn, hw9⟩
                have hQ9 : QR w1 w9 (w1.heap.size + 1) w1.heap.size kp most (q :: M) (q :: M) (k + 1) := by rw [hw9]; exact HQ8.out.grown (below_drewN (Below.refl _ _) nn)
                obtain ⟨ka, kc, hs1, hs2⟩ := hQ9.shows
                obtain ⟨g, rfl, d0⟩ := hs2 q M rfl
                have HQ9 := Lib.hid hQ9
                obtain ⟨n, hn⟩ : ∃ n, n = (q :: M).length := ⟨_, rfl⟩
                have hn0 : (0 : Int) < n := by rw [hn, List.length_cons]; omega
                have hn1 : decide ((0 : Int) < n) = true := decide_eq_true hn0
                rw [← hn] at hs1
                clear hw9 hQ9 HQ8 HU1 HU2 hs2 hn
                go_wp2_with fail
                go_roundw
                case rel => exact ⟨k + 1, T', q :: M, by omega, by go_num, rfl, hT0', by omega, HQ9.out⟩
                case measure => simp [intOf]; omega
            · refine (qr_q HQ.out fun o ho => join_ok _ _ o _ _ _ (s : Int) T _ ho (by omega) (by omega) hst' (by omega) (by omega)).mono ?_; rintro e w4 ⟨rfl, hQ4⟩
              have HQ4 := Lib.hid hQ4
              have ER := Lib.hid (show rj L most (s : Int) T = (L ++ [((s : Int), T)], 0) from by unfold rj; rw [if_neg hst, if_neg hfu])
              have hl4 := HQ.out.facts
              have hl5 : (L.length : Int) ≤ 1000 := by omega
              clear hQ4 hst hst' hfu hl4
              go_wp2_with fail
              refine (qr_r HQ4.out fun o ho => rjoin_any _ o _ _ (s : Int) T _ ho hl5).mono ?_; rw [ER.out]; rintro e w5 ⟨rfl, hQ5⟩
              have HQ5 := Lib.hid hQ5
              clear hQ5 HQ4 HQ ER hl5
              obtain ⟨L', hL'⟩ : ∃ L', L' = L ++ [((s : Int), T)] := ⟨_, rfl⟩
              rw [← hL'] at HQ5
              clear hL'
              obtain ⟨T', hT'⟩ : ∃ T', T' = T := ⟨_, rfl⟩
              have hT0' : 0 ≤ T' := by omega
              have hT1' : T' ≤ 5 * (k + 1 : Nat) := by omega
              rw [← hT']
              clear hT'
              go_wp2_with fail
              cases L' with
              | nil =>
                refine (qr_first_none HQ5.out).mono ?_; rintro e w' ⟨rfl, rfl⟩
                go_wp2_with fail
                refine (qr_list HQ5.out).mono ?_; rintro e w7 ⟨u, rfl, hU, hQ7⟩
                have HU := Lib.hid hU; have HQ7 := Lib.hid hQ7
                clear hU hQ7 HQ5
                go_wp2_with fail
                refine (qr_rlist HQ7.out HU.out (by simp)).mono ?_; rintro e w8 ⟨u2, rfl, hU2, hU1, hQ8⟩
                have HU1 := Lib.hid hU1; have HU2 := Lib.hid hU2; have HQ8 := Lib.hid hQ8
                clear hU1 hU2 hQ8 HQ7 HU
                go_wp2_with fail
                refine (same_yes _ _ _ _ HU1.out HU2.out).mono ?_; rintro e w9 ⟨rfl, nn, hw9⟩
                have hQ9 : QR w1 w9 (w1.heap.size + 1) w1.heap.size kp most [] [] (k + 1) := by rw [hw9]; exact HQ8.out.grown (below_drewN (Below.refl _ _) nn)
                obtain ⟨ka, kc, hs1, _⟩ := hQ9.shows
                have HQ9 := Lib.hid hQ9
                rw [List.length_nil] at hs1
                clear hw9 hQ9 HQ8 HU1 HU2
                go_wp2_with fail
                go_roundw
                case rel => exact ⟨k + 1, T', [], by omega, by go_num, rfl, hT0', by omega, HQ9.out⟩
                case measure => simp [intOf]; omega
              | cons q M =>
                refine (qr_first_some HQ5.out).mono ?_; rintro e w' ⟨rfl, rfl⟩
                go_wp2_with fail
                refine (qr_list HQ5.out).mono ?_; rintro e w7 ⟨u, rfl, hU, hQ7⟩
                have hl7 := hQ7.facts
                have hl8 : (((q :: M).length : Nat) : Int) ≤ 1000 := by omega
                have HL8 := Lib.hid hl8
                have HU := Lib.hid hU; have HQ7 := Lib.hid hQ7
                clear hU hQ7 HQ5 hl7 hl8
                go_wp2_with fail
                refine (qr_rlist HQ7.out HU.out HL8.out).mono ?_; rintro e w8 ⟨u2, rfl, hU2, hU1, hQ8⟩
                have HU1 := Lib.hid hU1; have HU2 := Lib.hid hU2; have HQ8 := Lib.hid hQ8
                clear hU1 hU2 hQ8 HQ7 HU
                go_wp2_with fail
                refine (same_yes _ _ _ _ HU1.out HU2.out).mono ?_; rintro e w9 ⟨rfl, nn, hw9⟩
                have hQ9 : QR w1 w9 (w1.heap.size + 1) w1.heap.size kp most (q :: M) (q :: M) (k + 1) := by rw [hw9]; exact HQ8.out.grown (below_drewN (Below.refl _ _) nn)
                obtain ⟨ka, kc, hs1, hs2⟩ := hQ9.shows
                obtain ⟨g, rfl, d0⟩ := hs2 q M rfl
                have HQ9 := Lib.hid hQ9
                obtain ⟨n, hn⟩ : ∃ n, n = (q :: M).length := ⟨_, rfl⟩
                have hn0 : (0 : Int) < n := by rw [hn, List.length_cons]; omega
                have hn1 : decide ((0 : Int) < n) = true := decide_eq_true hn0
                rw [← hn] at hs1
                clear hw9 hQ9 HQ8 HU1 HU2 hs2 hn
                go_wp2_with fail
                go_roundw
                case rel => exact ⟨k + 1, T', q :: M, by omega, by go_num, rfl, hT0', by omega, HQ9.out⟩
                case measure => simp [intOf]; omega
      · as_aux_lemma =>
          go_wp2_with fail
          by_cases hst : (look L (s : Int)).isSome = true
          · refine (qr_q HQ.out fun o ho => join_state _ _ o _ _ _ (s : Int) T _ ho (by omega) hst).mono ?_; rintro e w4 ⟨rfl, hQ4⟩
            have HQ4 := Lib.hid hQ4
            have ER := Lib.hid (show rj L most (s : Int) T = (L, 6) from by unfold rj; rw [if_pos hst])
            clear hQ4 hst
            go_wp2_with fail
            refine (qr_r HQ4.out fun o ho => rjoin_any _ o _ _ (s : Int) T _ ho (by have := HQ4.out.facts; omega)).mono ?_; rw [ER.out]; rintro e w5 ⟨rfl, hQ5⟩
            have HQ5 := Lib.hid (hQ5.more (show k ≤ k + 1 by omega))
            clear hQ5 HQ4 HQ ER
            obtain ⟨L', hL'⟩ : ∃ L', L' = L := ⟨_, rfl⟩
            rw [← hL'] at HQ5
            clear hL'
            obtain ⟨T', hT'⟩ : ∃ T', T' = T := ⟨_, rfl⟩
            have hT0' : 0 ≤ T' := by omega
            have hT1' : T' ≤ 5 * (k + 1 : Nat) := by omega
            rw [← hT']
            clear hT'
            go_wp2_with fail
            cases L' with
            | nil =>
              refine (qr_first_none HQ5.out).mono ?_; rintro e w' ⟨rfl, rfl⟩
              go_wp2_with fail
              refine (qr_list HQ5.out).mono ?_; rintro e w7 ⟨u, rfl, hU, hQ7⟩
              have HU := Lib.hid hU; have HQ7 := Lib.hid hQ7
              clear hU hQ7 HQ5
              go_wp2_with fail
              refine (qr_rlist HQ7.out HU.out (by simp)).mono ?_; rintro e w8 ⟨u2, rfl, hU2, hU1, hQ8⟩
              have HU1 := Lib.hid hU1; have HU2 := Lib.hid hU2; have HQ8 := Lib.hid hQ8
              clear hU1 hU2 hQ8 HQ7 HU
              go_wp2_with fail
              refine (same_yes _ _ _ _ HU1.out HU2.out).mono ?_; rintro e w9 ⟨rfl, nn, hw9⟩
              have hQ9 : QR w1 w9 (w1.heap.size + 1) w1.heap.size kp most [] [] (k + 1) := by rw [hw9]; exact HQ8.out.grown (below_drewN (Below.refl _ _) nn)
              obtain ⟨ka, kc, hs1, _⟩ := hQ9.shows
              have HQ9 := Lib.hid hQ9
              rw [List.length_nil] at hs1
              clear hw9 hQ9 HQ8 HU1 HU2
              go_wp2_with fail
              go_roundw
              case rel => exact ⟨k + 1, T', [], by omega, by go_num, rfl, hT0', by omega, HQ9.out⟩
              case measure => simp [intOf]; omega
            | cons q M =>
              refine (qr_first_some HQ5.out).mono ?_; rintro e w' ⟨rfl, rfl⟩
              go_wp2_with fail
              refine (qr_list HQ5.out).mono ?_; rintro e w7 ⟨u, rfl, hU, hQ7⟩
              have hl7 := hQ7.facts
              have hl8 : (((q :: M).length : Nat) : Int) ≤ 1000 := by omega
              have HL8 := Lib.hid hl8
              have HU := Lib.hid hU; have HQ7 := Lib.hid hQ7
              clear hU hQ7 HQ5 hl7 hl8
              go_wp2_with fail
              refine (qr_rlist HQ7.out HU.out HL8.out).mono ?_; rintro e w8 ⟨u2, rfl, hU2, hU1, hQ8⟩
              have HU1 := Lib.hid hU1; have HU2 := Lib.hid hU2; have HQ8 := Lib.hid hQ8
              clear hU1 hU2 hQ8 HQ7 HU
              go_wp2_with fail
              refine (same_yes _ _ _ _ HU1.out HU2.out).mono ?_; rintro e w9 ⟨rfl, nn, hw9⟩
              have hQ9 : QR w1 w9 (w1.heap.size + 1) w1.heap.size kp most (q :: M) (q :: M) (k + 1) := by rw [hw9]; exact HQ8.out.grown (below_drewN (Below.refl _ _) nn)
              obtain ⟨ka, kc, hs1, hs2⟩ := hQ9.shows
              obtain ⟨g, rfl, d0⟩ := hs2 q M rfl
              have HQ9 := Lib.hid hQ9
              obtain ⟨n, hn⟩ : ∃ n, n = (q :: M).length := ⟨_, rfl⟩
              have hn0 : (0 : Int) < n := by rw [hn, List.length_cons]; omega
              have hn1 : decide ((0 : Int) < n) = true := decide_eq_true hn0
              rw [← hn] at hs1
              clear hw9 hQ9 HQ8 HU1 HU2 hs2 hn
              go_wp2_with fail
              go_roundw
              case rel => exact ⟨k + 1, T', q :: M, by omega, by go_num, rfl, hT0', by omega, HQ9.out⟩
              case measure => simp [intOf]; omega
          · have hst' : look L (s : Int) = none := by simpa using hst
            by_cases hfu : most ≤ L.length
            · refine (qr_q HQ.out fun o ho => join_full _ _ o _ _ _ (s : Int) T _ ho (by omega) hst' hfu).mono ?_; rintro e w4 ⟨rfl, hQ4⟩
              have HQ4 := Lib.hid hQ4
              have ER := Lib.hid (show rj L most (s : Int) T = (L, 7) from by unfold rj; rw [if_neg hst, if_pos hfu])
              clear hQ4 hst hst' hfu
              go_wp2_with fail
              refine (qr_r HQ4.out fun o ho => rjoin_any _ o _ _ (s : Int) T _ ho (by have := HQ4.out.facts; omega)).mono ?_; rw [ER.out]; rintro e w5 ⟨rfl, hQ5⟩
              have HQ5 := Lib.hid (hQ5.more (show k ≤ k + 1 by omega))
              clear hQ5 HQ4 HQ ER
              obtain ⟨L', hL'⟩ : ∃ L', L' = L := ⟨_, rfl⟩
              rw [← hL'] at HQ5
              clear hL'
              obtain ⟨T', hT'⟩ : ∃ T', T' = T := ⟨_, rfl⟩
              have hT0' : 0 ≤ T' := by omega
              have hT1' : T' ≤ 5 * (k + 1 : Nat) := by omega
              rw [← hT']
              clear hT'
              go_wp2_with fail
              cases L' with
              | nil =>
                refine (qr_first_none HQ5.out).mono ?_; rintro e w' ⟨rfl, rfl⟩
                go_wp2_with fail
                refine (qr_list HQ5.out).mono ?_; rintro e w7 ⟨u, rfl, hU, hQ7⟩
                have HU := Lib.hid hU; have HQ7 := Lib.hid hQ7
                clear hU hQ7 HQ5
                go_wp2_with fail
                refine (qr_rlist HQ7.out HU.out (by simp)).mono ?_; rintro e w8 ⟨u2, rfl, hU2, hU1, hQ8⟩
                have HU1 := Lib.hid hU1; have HU2 := Lib.hid hU2; have HQ8 := Lib.hid hQ8
                clear hU1 hU2 hQ8 HQ7 HU
                go_wp2_with fail
                refine (same_yes _ _ _ _ HU1.out HU2.out).mono ?_; rintro e w9 ⟨rfl, nn, hw9⟩
                have hQ9 : QR w1 w9 (w1.heap.size + 1) w1.heap.size kp most [] [] (k + 1) := by rw [hw9]; exact HQ8.out.grown (below_drewN (Below.refl _ _) nn)
                obtain ⟨ka, kc, hs1, _⟩ := hQ9.shows
                have HQ9 := Lib.hid hQ9
                rw [List.length_nil] at hs1
                clear hw9 hQ9 HQ8 HU1 HU2
                go_wp2_with fail
                go_roundw
                case rel => exact ⟨k + 1, T', [], by omega, by go_num, rfl, hT0', by omega, HQ9.out⟩
                case measure => simp [intOf]; omega
              | cons q M =>
                refine (qr_first_some HQ5.out).mono ?_; rintro e w' ⟨rfl, rfl⟩
                go_wp2_with fail
                refine (qr_list HQ5.out).mono ?_; rintro e w7 ⟨u, rfl, hU, hQ7⟩
                have hl7 := hQ7.facts
                have hl8 : (((q :: M).length : Nat) : Int) ≤ 1000 := by omega
                have HL8 := Lib.hid hl8
                have HU := Lib.hid hU; have HQ7 := Lib.hid hQ7
                clear hU hQ7 HQ5 hl7 hl8
                go_wp2_with fail
                refine (qr_rlist HQ7.out HU.out HL8.out).mono ?_; rintro e w8 ⟨u2, rfl, hU2, hU1, hQ8⟩
                have HU1 := Lib.hid hU1; have HU2 := Lib.hid hU2; have HQ8 := Lib.hid hQ8
                clear hU1 hU2 hQ8 HQ7 HU
                go_wp2_with fail
                refine (same_yes _ _ _ _ HU1.out HU2.out).mono ?_; rintro e w9 ⟨rfl, nn, hw9⟩
                have hQ9 : QR w1 w9 (w1.heap.size + 1) w1.heap.size kp most (q :: M) (q :: M) (k + 1) := by rw [hw9]; exact HQ8.out.grown (below_drewN (Below.refl _ _) nn)
                obtain ⟨ka, kc, hs1, hs2⟩ := hQ9.shows
                obtain ⟨g, rfl, d0⟩ := hs2 q M rfl
                have HQ9 := Lib.hid hQ9
                obtain ⟨n, hn⟩ : ∃ n, n = (q :: M).length := ⟨_, rfl⟩
                have hn0 : (0 : Int) < n := by rw [hn, List.length_cons]; omega
                have hn1 : decide ((0 : Int) < n) = true := decide_eq_true hn0
                rw [← hn] at hs1
                clear hw9 hQ9 HQ8 HU1 HU2 hs2 hn
                go_wp2_with fail
                go_roundw
                case rel => exact ⟨k + 1, T', q :: M, by omega, by go_num, rfl, hT0', by omega, HQ9.out⟩
                case measure => simp [intOf]; omega
            · refine (qr_q HQ.out fun o ho => join_ok _ _ o _ _ _ (s : Int) T _ ho (by omega) (by omega) hst' (by omega) (by omega)).mono ?_; rintro e w4 ⟨rfl, hQ4⟩
              have HQ4 := Lib.hid hQ4
              have ER := Lib.hid (show rj L most (s : Int) T = (L ++ [((s : Int), T)], 0) from by unfold rj; rw [if_neg hst, if_neg hfu])
              have hl4 := HQ.out.facts
              have hl5 : (L.length : Int) ≤ 1000 := by omega
              clear hQ4 hst hst' hfu hl4
              go_wp2_with fail
              refine (qr_r HQ4.out fun o ho => rjoin_any _ o _ _ (s : Int) T _ ho hl5).mono ?_; rw [ER.out]; rintro e w5 ⟨rfl, hQ5⟩
              have HQ5 := Lib.hid hQ5
              clear hQ5 HQ4 HQ ER hl5
              obtain ⟨L', hL'⟩ : ∃ L', L' = L ++ [((s : Int), T)] := ⟨_, rfl⟩
              rw [← hL'] at HQ5
              clear hL'
              obtain ⟨T', hT'⟩ : ∃ T', T' = T := ⟨_, rfl⟩
              have hT0' : 0 ≤ T' := by omega
              have hT1' : T' ≤ 5 * (k + 1 : Nat) := by omega
              rw [← hT']
              clear hT'
              go_wp2_with fail
              cases L' with
              | nil =>
                refine (qr_first_none HQ5.out).mono ?_; rintro e w' ⟨rfl, rfl⟩
                go_wp2_with fail
                refine (qr_list HQ5.out).mono ?_; rintro e w7 ⟨u, rfl, hU, hQ7⟩
                have HU := Lib.hid hU; have HQ7 := Lib.hid hQ7
                clear hU hQ7 HQ5
                go_wp2_with fail
                refine (qr_rlist HQ7.out HU.out (by simp)).mono ?_; rintro e w8 ⟨u2, rfl, hU2, hU1, hQ8⟩
                have HU1 := Lib.hid hU1; have HU2 := Lib.hid hU2; have HQ8 := Lib.hid hQ8
                clear hU1 hU2 hQ8 HQ7 HU
                go_wp2_with fail
                refine (same_yes _ _ _ _ HU1.out HU2.out).mono ?_; rintro e w9 ⟨rfl, nn, hw9⟩
                have hQ9 : QR w1 w9 (w1.heap.size + 1) w1.heap.size kp most [] [] (k + 1) := by rw [hw9]; exact HQ8.out.grown (below_drewN (Below.refl _ _) nn)
                obtain ⟨ka, kc, hs1, _⟩ := hQ9.shows
                have HQ9 := Lib.hid hQ9
                rw [List.length_nil] at hs1
                clear hw9 hQ9 HQ8 HU1 HU2
                go_wp2_with fail
                go_roundw
                case rel => exact ⟨k + 1, T', [], by omega, by go_num, rfl, hT0', by omega, HQ9.out⟩
                case measure => simp [intOf]; omega
              | cons q M =>
                refine (qr_first_some HQ5.out).mono ?_; rintro e w' ⟨rfl, rfl⟩
                go_wp2_with fail
                refine (qr_list HQ5.out).mono ?_; rintro e w7 ⟨u, rfl, hU, hQ7⟩
                have hl7 := hQ7.facts
                have hl8 : (((q :: M).length : Nat) : Int) ≤ 1000 := by omega
                have HL8 := Lib.hid hl8
                have HU := Lib.hid hU; have HQ7 := Lib.hid hQ7
                clear hU hQ7 HQ5 hl7 hl8
                go_wp2_with fail
                refine (qr_rlist HQ7.out HU.out HL8.out).mono ?_; rintro e w8 ⟨u2, rfl, hU2, hU1, hQ8⟩
                have HU1 := Lib.hid hU1; have HU2 := Lib.hid hU2; have HQ8 := Lib.hid hQ8
                clear hU1 hU2 hQ8 HQ7 HU
                go_wp2_with fail
                refine (same_yes _ _ _ _ HU1.out HU2.out).mono ?_; rintro e w9 ⟨rfl, nn, hw9⟩
                have hQ9 : QR w1 w9 (w1.heap.size + 1) w1.heap.size kp most (q :: M) (q :: M) (k + 1) := by rw [hw9]; exact HQ8.out.grown (below_drewN (Below.refl _ _) nn)
                obtain ⟨ka, kc, hs1, hs2⟩ := hQ9.shows
                obtain ⟨g, rfl, d0⟩ := hs2 q M rfl
                have HQ9 := Lib.hid hQ9
                obtain ⟨n, hn⟩ : ∃ n, n = (q :: M).length := ⟨_, rfl⟩
                have hn0 : (0 : Int) < n := by rw [hn, List.length_cons]; omega
                have hn1 : decide ((0 : Int) < n) = true := decide_eq_true hn0
                rw [← hn] at hs1
                clear hw9 hQ9 HQ8 HU1 HU2 hs2 hn
                go_wp2_with fail
                go_roundw
                case rel => exact ⟨k + 1, T', q :: M, by omega, by go_num, rfl, hT0', by omega, HQ9.out⟩
                case measure => simp [intOf]; omega
      · as_aux_lemma =>
          go_wp2_with fail
          by_cases hst : (look L (s : Int)).isSome = true
          · refine (qr_q HQ.out fun o ho => join_state _ _ o _ _ _ (s : Int) T _ ho (by omega) hst).mono ?_; rintro e w4 ⟨rfl, hQ4⟩
            have HQ4 := Lib.hid hQ4
            have ER := Lib.hid (show rj L most (s : Int) T = (L, 6) from by unfold rj; rw [if_pos hst])
            clear hQ4 hst
            go_wp2_with fail
            refine (qr_r HQ4.out fun o ho => rjoin_any _ o _ _ (s : Int) T _ ho (by have := HQ4.out.facts; omega)).mono ?_; rw [ER.out]; rintro e w5 ⟨rfl, hQ5⟩
            have HQ5 := Lib.hid (hQ5.more (show k ≤ k + 1 by omega))
            clear hQ5 HQ4 HQ ER
            obtain ⟨L', hL'⟩ : ∃ L', L' = L := ⟨_, rfl⟩
            rw [← hL'] at HQ5
            clear hL'
            obtain ⟨T', hT'⟩ : ∃ T', T' = T := ⟨_, rfl⟩
            have hT0' : 0 ≤ T' := by omega
            have hT1' : T' ≤ 5 * (k + 1 : Nat) := by omega
            rw [← hT']
            clear hT'
            go_wp2_with fail
            cases L' with
            | nil =>
              refine (qr_first_none HQ5.out).mono ?_; rintro e w' ⟨rfl, rfl⟩
              go_wp2_with fail
              refine (qr_list HQ5.out).mono ?_; rintro e w7 ⟨u, rfl, hU, hQ7⟩
              have HU := Lib.hid hU; have HQ7 := Lib.hid hQ7
              clear hU hQ7 HQ5
              go_wp2_with fail
              refine (qr_rlist HQ7.out HU.out (by simp)).mono ?_; rintro e w8 ⟨u2, rfl, hU2, hU1, hQ8⟩
              have HU1 := Lib.hid hU1; have HU2 := Lib.hid hU2; have HQ8 := Lib.hid hQ8
              clear hU1 hU2 hQ8 HQ7 HU
              go_wp2_with fail
              refine (same_yes _ _ _ _ HU1.out HU2.out).mono ?_; rintro e w9 ⟨rfl, nn, hw9⟩
              have hQ9 : QR w1 w9 (w1.heap.size + 1) w1.heap.size kp most [] [] (k + 1) := by rw [hw9]; exact HQ8.out.grown (below_drewN (Below.refl _ _) nn)
              obtain ⟨ka, kc, hs1, _⟩ := hQ9.shows
              have HQ9 := Lib.hid hQ9
              rw [List.length_nil] at hs1
              clear hw9 hQ9 HQ8 HU1 HU2
              go_wp2_with fail
              go_roundw
              case rel => exact ⟨k + 1, T', [], by omega, by go_num, rfl, hT0', by omega, HQ9.out⟩
              case measure => simp [intOf]; omega
            | cons q M =>
              refine (qr_first_some HQ5.out).mono ?_; rintro e w' ⟨rfl, rfl⟩
              go_wp2_with fail
              refine (qr_list HQ5.out).mono ?_; rintro e w7 ⟨u, rfl, hU, hQ7⟩
              have hl7 := hQ7.facts
              have hl8 : (((q :: M).length : Nat) : Int) ≤ 1000 := by omega
              have HL8 := Lib.hid hl8
              have HU := Lib.hid hU; have HQ7 := Lib.hid hQ7
              clear hU hQ7 HQ5 hl7 hl8
              go_wp2_with fail
              refine (qr_rlist HQ7.out HU.out HL8.out).mono ?_; rintro e w8 ⟨u2, rfl, hU2, hU1, hQ8⟩
              have HU1 := Lib.hid hU1; have HU2 := Lib.hid hU2; have HQ8 := Lib.hid hQ8
              clear hU1 hU2 hQ8 HQ7 HU
              go_wp2_with fail
              refine (same_yes _ _ _ _ HU1.out HU2.out).mono ?_; rintro e w9 ⟨rfl, nn, hw9⟩
              have hQ9 : QR w1 w9 (w1.heap.size + 1) w1.heap.size kp most (q :: M) (q :: M) (k + 1) := by rw [hw9]; exact HQ8.out.grown (below_drewN (Below.refl _ _) nn)
              obtain ⟨ka, kc, hs1, hs2⟩ := hQ9.shows
              obtain ⟨g, rfl, d0⟩ := hs2 q M rfl
              have HQ9 := Lib.hid hQ9
              obtain ⟨n, hn⟩ : ∃ n, n = (q :: M).length := ⟨_, rfl⟩
              have hn0 : (0 : Int) < n := by rw [hn, List.length_cons]; omega
              have hn1 : decide ((0 : Int) < n) = true := decide_eq_true hn0
              rw [← hn] at hs1
              clear hw9 hQ9 HQ8 HU1 HU2 hs2 hn
              go_wp2_with fail
              go_roundw
              case rel => exact ⟨k + 1, T', q :: M, by omega, by go_num, rfl, hT0', by omega, HQ9.out⟩
              case measure => simp [intOf]; omega
          · have hst' : look L (s : Int) = none := by simpa using hst
            by_cases hfu : most ≤ L.length
            · refine (qr_q HQ.out fun o ho => join_full _ _ o _ _ _ (s : Int) T _ ho (by omega) hst' hfu).mono ?_; rintro e w4 ⟨rfl, hQ4⟩
              have HQ4 := Lib.hid hQ4
              have ER := Lib.hid (show rj L most (s : Int) T = (L, 7) from by unfold rj; rw [if_neg hst, if_pos hfu])
              clear hQ4 hst hst' hfu
              go_wp2_with fail
              refine (qr_r HQ4.out fun o ho => rjoin_any _ o _ _ (s : Int) T _ ho (by have := HQ4.out.facts; omega)).mono ?_; rw [ER.out]; rintro e w5 ⟨rfl, hQ5⟩
              have HQ5 := Lib.hid (hQ5.more (show k ≤ k + 1 by omega))
              clear hQ5 HQ4 HQ ER
              obtain ⟨L', hL'⟩ : ∃ L', L' = L := ⟨_, rfl⟩
              rw [← hL'] at HQ5
              clear hL'
              obtain ⟨T', hT'⟩ : ∃ T', T' = T := ⟨_, rfl⟩
              have hT0' : 0 ≤ T' := by omega
              have hT1' : T' ≤ 5 * (k + 1 : Nat) := by omega
              rw [← hT']
              clear hT'
              go_wp2_with fail
              cases L' with
              | nil =>
                refine (qr_first_none HQ5.out).mono ?_; rintro e w' ⟨rfl, rfl⟩
                go_wp2_with fail
                refine (qr_list HQ5.out).mono ?_; rintro e w7 ⟨u, rfl, hU, hQ7⟩
                have HU := Lib.hid hU; have HQ7 := Lib.hid hQ7
                clear hU hQ7 HQ5
                go_wp2_with fail
                refine (qr_rlist HQ7.out HU.out (by simp)).mono ?_; rintro e w8 ⟨u2, rfl, hU2, hU1, hQ8⟩
                have HU1 := Lib.hid hU1; have HU2 := Lib.hid hU2; have HQ8 := Lib.hid hQ8
                clear hU1 hU2 hQ8 HQ7 HU
                go_wp2_with fail
                refine (same_yes _ _ _ _ HU1.out HU2.out).mono ?_; rintro e w9 ⟨rfl, nn, hw9⟩
                have hQ9 : QR w1 w9 (w1.heap.size + 1) w1.heap.size kp most [] [] (k + 1) := by rw [hw9]; exact HQ8.out.grown (below_drewN (Below.refl _ _) nn)
                obtain ⟨ka, kc, hs1, _⟩ := hQ9.shows
                have HQ9 := Lib.hid hQ9
                rw [List.length_nil] at hs1
                clear hw9 hQ9 HQ8 HU1 HU2
                go_wp2_with fail
                go_roundw
                case rel => exact ⟨k + 1, T', [], by omega, by go_num, rfl, hT0', by omega, HQ9.out⟩
                case measure => simp [intOf]; omega
              | cons q M =>
                refine (qr_first_some HQ5.out).mono ?_; rintro e w' ⟨rfl, rfl⟩
                go_wp2_with fail
                refine (qr_list HQ5.out).mono ?_; rintro e w7 ⟨u, rfl, hU, hQ7⟩
                have hl7 := hQ7.facts
                have hl8 : (((q :: M).length : Nat) : Int) ≤ 1000 := by omega
                have HL8 := Lib.hid hl8
                have HU := Lib.hid hU; have HQ7 := Lib.hid hQ7
                clear hU hQ7 HQ5 hl7 hl8
                go_wp2_with fail
                refine (qr_rlist HQ7.out HU.out HL8.out).mono ?_; rintro e w8 ⟨u2, rfl, hU2, hU1, hQ8⟩
                have HU1 := Lib.hid hU1; have HU2 := Lib.hid hU2; have HQ8 := Lib.hid hQ8
                clear hU1 hU2 hQ8 HQ7 HU
                go_wp2_with fail
                refine (same_yes _ _ _ _ HU1.out HU2.out).mono ?_; rintro e w9 ⟨rfl, nn, hw9⟩
                have hQ9 : QR w1 w9 (w1.heap.size + 1) w1.heap.size kp most (q :: M) (q :: M) (k + 1) := by rw [hw9]; exact HQ8.out.grown (below_drewN (Below.refl _ _) nn)
                obtain ⟨ka, kc, hs1, hs2⟩ := hQ9.shows
                obtain ⟨g, rfl, d0⟩ := hs2 q M rfl
                have HQ9 := Lib.hid hQ9
                obtain ⟨n, hn⟩ : ∃ n, n = (q :: M).length := ⟨_, rfl⟩
                have hn0 : (0 : Int) < n := by rw [hn, List.length_cons]; omega
                have hn1 : decide ((0 : Int) < n) = true := decide_eq_true hn0
                rw [← hn] at hs1
                clear hw9 hQ9 HQ8 HU1 HU2 hs2 hn
                go_wp2_with fail
                go_roundw
                case rel => exact ⟨k + 1, T', q :: M, by omega, by go_num, rfl, hT0', by omega, HQ9.out⟩
                case measure => simp [intOf]; omega
            · refine (qr_q HQ.out fun o ho => join_ok _ _ o _ _ _ (s : Int) T _ ho (by omega) (by omega) hst' (by omega) (by omega)).mono ?_; rintro e w4 ⟨rfl, hQ4⟩
              have HQ4 := Lib.hid hQ4
              have ER := Lib.hid (show rj L most (s : Int) T = (L ++ [((s : Int), T)], 0) from by unfold rj; rw [if_neg hst, if_neg hfu])
              have hl4 := HQ.out.facts
              have hl5 : (L.length : Int) ≤ 1000 := by omega
              clear hQ4 hst hst' hfu hl4
              go_wp2_with fail
              refine (qr_r HQ4.out fun o ho => rjoin_any _ o _ _ (s : Int) T _ ho hl5).mono ?_; rw [ER.out]; rintro e w5 ⟨rfl, hQ5⟩
              have HQ5 := Lib.hid hQ5
              clear hQ5 HQ4 HQ ER hl5
              obtain ⟨L', hL'⟩ : ∃ L', L' = L ++ [((s : Int), T)] := ⟨_, rfl⟩
              rw [← hL'] at HQ5
              clear hL'
              obtain ⟨T', hT'⟩ : ∃ T', T' = T := ⟨_, rfl⟩
              have hT0' : 0 ≤ T' := by omega
              have hT1' : T' ≤ 5 * (k + 1 : Nat) := by omega
              rw [← hT']
              clear hT'
              go_wp2_with fail
              cases L' with
              | nil =>
                refine (qr_first_none HQ5.out).mono ?_; rintro e w' ⟨rfl, rfl⟩
                go_wp2_with fail
                refine (qr_list HQ5.out).mono ?_; rintro e w7 ⟨u, rfl, hU, hQ7⟩
                have HU := Lib.hid hU; have HQ7 := Lib.hid hQ7
                clear hU hQ7 HQ5
                go_wp2_with fail
                refine (qr_rlist HQ7.out HU.out (by simp)).mono ?_; rintro e w8 ⟨u2, rfl, hU2, hU1, hQ8⟩
                have HU1 := Lib.hid hU1; have HU2 := Lib.hid hU2; have HQ8 := Lib.hid hQ8
                clear hU1 hU2 hQ8 HQ7 HU
                go_wp2_with fail
                refine (same_yes _ _ _ _ HU1.out HU2.out).mono ?_; rintro e w9 ⟨rfl, nn, hw9⟩
                have hQ9 : QR w1 w9 (w1.heap.size + 1) w1.heap.size kp most [] [] (k + 1) := by rw [hw9]; exact HQ8.out.grown (below_drewN (Below.refl _ _) nn)
                obtain ⟨ka, kc, hs1, _⟩ := hQ9.shows
                have HQ9 := Lib.hid hQ9
                rw [List.length_nil] at hs1
                clear hw9 hQ9 HQ8 HU1 HU2
                go_wp2_with fail
                go_roundw
                case rel => exact ⟨k + 1, T', [], by omega, by go_num, rfl, hT0', by omega, HQ9.out⟩
                case measure => simp [intOf]; omega
              | cons q M =>
                refine (qr_first_some HQ5.out).mono ?_; rintro e w' ⟨rfl, rfl⟩
                go_wp2_with fail
                refine (qr_list HQ5.out).mono ?_; rintro e w7 ⟨u, rfl, hU, hQ7⟩
                have hl7 := hQ7.facts
                have hl8 : (((q :: M).length : Nat) : Int) ≤ 1000 := by omega
                have HL8 := Lib.hid hl8
                have HU := Lib.hid hU; have HQ7 := Lib.hid hQ7
                clear hU hQ7 HQ5 hl7 hl8
                go_wp2_with fail
                refine (qr_rlist HQ7.out HU.out HL8.out).mono ?_; rintro e w8 ⟨u2, rfl, hU2, hU1, hQ8⟩
                have HU1 := Lib.hid hU1; have HU2 := Lib.hid hU2; have HQ8 := Lib.hid hQ8
                clear hU1 hU2 hQ8 HQ7 HU
                go_wp2_with fail
                refine (same_yes _ _ _ _ HU1.out HU2.out).mono ?_; rintro e w9 ⟨rfl, nn, hw9⟩
                have hQ9 : QR w1 w9 (w1.heap.size + 1) w1.heap.size kp most (q :: M) (q :: M) (k + 1) := by rw [hw9]; exact HQ8.out.grown (below_drewN (Below.refl _ _) nn)
                obtain ⟨ka, kc, hs1, hs2⟩ := hQ9.shows
                obtain ⟨g, rfl, d0⟩ := hs2 q M rfl
                have HQ9 := Lib.hid hQ9
                obtain ⟨n, hn⟩ : ∃ n, n = (q :: M).length := ⟨_, rfl⟩
                have hn0 : (0 : Int) < n := by rw [hn, List.length_cons]; omega
                have hn1 : decide ((0 : Int) < n) = true := decide_eq_true hn0
                rw [← hn] at hs1
                clear hw9 hQ9 HQ8 HU1 HU2 hs2 hn
                go_wp2_with fail
                go_roundw
                case rel => exact ⟨k + 1, T', q :: M, by omega, by go_num, rfl, hT0', by omega, HQ9.out⟩
                case measure => simp [intOf]; omega
      · as_aux_lemma =>
          go_wp2_with fail
          by_cases hst : (look L (s : Int)).isSome = true
          · refine (qr_q HQ.out fun o ho => leave_yes _ _ o _ _ _ (s : Int) _ ho (by omega) hst).mono ?_; rintro e w4 ⟨rfl, hQ4⟩
            have HQ4 := Lib.hid hQ4
            have ER := Lib.hid (show rl L (s : Int) = (L.filter fun q => !decide (q.1 = (s : Int)), true) from by unfold rl; rw [if_pos hst])
            have hl4 := HQ.out.facts
            have hl5 : (L.length : Int) ≤ 1000 := by omega
            have HND := Lib.hid hl4.1
            clear hQ4 hst hl4
            go_wp2_with fail
            refine (qr_r HQ4.out fun o ho => rleave_any _ o _ _ (s : Int) _ ho hl5 HND.out).mono ?_; rw [ER.out]; rintro e w5 ⟨rfl, hQ5⟩
            have HQ5 := Lib.hid (hQ5.more (show k ≤ k + 1 by omega))
            clear hQ5 HQ4 HQ ER hl5 HND
            obtain ⟨L', hL'⟩ : ∃ L', L' = L.filter fun q => !decide (q.1 = (s : Int)) := ⟨_, rfl⟩
            rw [← hL'] at HQ5
            clear hL'
            obtain ⟨T', hT'⟩ : ∃ T', T' = T := ⟨_, rfl⟩
            have hT0' : 0 ≤ T' := by omega
            have hT1' : T' ≤ 5 * (k + 1 : Nat) := by omega
            rw [← hT']
            clear hT'
            go_wp2_with fail
            cases L' with
            | nil =>
              refine (qr_first_none HQ5.out).mono ?_; rintro e w' ⟨rfl, rfl⟩
              go_wp2_with fail
              refine (qr_list HQ5.out).mono ?_; rintro e w7 ⟨u, rfl, hU, hQ7⟩
              have HU := Lib.hid hU; have HQ7 := Lib.hid hQ7
              clear hU hQ7 HQ5
              go_wp2_with fail
              refine (qr_rlist HQ7.out HU.out (by simp)).mono ?_; rintro e w8 ⟨u2, rfl, hU2, hU1, hQ8⟩
              have HU1 := Lib.hid hU1; have HU2 := Lib.hid hU2; have HQ8 := Lib.hid hQ8
              clear hU1 hU2 hQ8 HQ7 HU
              go_wp2_with fail
              refine (same_yes _ _ _ _ HU1.out HU2.out).mono ?_; rintro e w9 ⟨rfl, nn, hw9⟩
              have hQ9 : QR w1 w9 (w1.heap.size + 1) w1.heap.size kp most [] [] (k + 1) := by rw [hw9]; exact HQ8.out.grown (below_drewN (Below.refl _ _) nn)
              obtain ⟨ka, kc, hs1, _⟩ := hQ9.shows
              have HQ9 := Lib.hid hQ9
              rw [List.length_nil] at hs1
              clear hw9 hQ9 HQ8 HU1 HU2
              go_wp2_with fail
              go_roundw
              case rel => exact ⟨k + 1, T', [], by omega, by go_num, rfl, hT0', by omega, HQ9.out⟩
              case measure => simp [intOf]; omega
            | cons q M =>
              refine (qr_first_some HQ5.out).mono ?_; rintro e w' ⟨rfl, rfl⟩
              go_wp2_with fail
              refine (qr_list HQ5.out).mono ?_; rintro e w7 ⟨u, rfl, hU, hQ7⟩
              have hl7 := hQ7.facts
              have hl8 : (((q :: M).length : Nat) : Int) ≤ 1000 := by omega
              have HL8 := Lib.hid hl8
              have HU := Lib.hid hU; have HQ7 := Lib.hid hQ7
              clear hU hQ7 HQ5 hl7 hl8
              go_wp2_with fail
              refine (qr_rlist HQ7.out HU.out HL8.out).mono ?_; rintro e w8 ⟨u2, rfl, hU2, hU1, hQ8⟩
              have HU1 := Lib.hid hU1; have HU2 := Lib.hid hU2; have HQ8 := Lib.hid hQ8
              clear hU1 hU2 hQ8 HQ7 HU
              go_wp2_with fail
              refine (same_yes _ _ _ _ HU1.out HU2.out).mono ?_; rintro e w9 ⟨rfl, nn, hw9⟩
              have hQ9 : QR w1 w9 (w1.heap.size + 1) w1.heap.size kp most (q :: M) (q :: M) (k + 1) := by rw [hw9]; exact HQ8.out.grown (below_drewN (Below.refl _ _) nn)
              obtain ⟨ka, kc, hs1, hs2⟩ := hQ9.shows
              obtain ⟨g, rfl, d0⟩ := hs2 q M rfl
              have HQ9 := Lib.hid hQ9
              obtain ⟨n, hn⟩ : ∃ n, n = (q :: M).length := ⟨_, rfl⟩
              have hn0 : (0 : Int) < n := by rw [hn, List.length_cons]; omega
              have hn1 : decide ((0 : Int) < n) = true := decide_eq_true hn0
              rw [← hn] at hs1
              clear hw9 hQ9 HQ8 HU1 HU2 hs2 hn
              go_wp2_with fail
              go_roundw
              case rel => exact ⟨k + 1, T', q :: M, by omega, by go_num, rfl, hT0', by omega, HQ9.out⟩
              case measure => simp [intOf]; omega
          · have hst' : look L (s : Int) = none := by simpa using hst
            refine (qr_q HQ.out fun o ho => leave_no _ _ o _ _ _ (s : Int) _ ho hst').mono ?_; rintro e w4 ⟨rfl, hQ4⟩
            have HQ4 := Lib.hid hQ4
            have ER := Lib.hid (show rl L (s : Int) = (L, false) from by unfold rl; rw [if_neg hst])
            have hl4 := HQ.out.facts
            have hl5 : (L.length : Int) ≤ 1000 := by omega
            have HND := Lib.hid hl4.1
            clear hQ4 hst hst' hl4
            go_wp2_with fail
            refine (qr_r HQ4.out fun o ho => rleave_any _ o _ _ (s : Int) _ ho hl5 HND.out).mono ?_; rw [ER.out]; rintro e w5 ⟨rfl, hQ5⟩
            have HQ5 := Lib.hid (hQ5.more (show k ≤ k + 1 by omega))
            clear hQ5 HQ4 HQ ER hl5 HND
            obtain ⟨L', hL'⟩ : ∃ L', L' = L := ⟨_, rfl⟩
            rw [← hL'] at HQ5
            clear hL'
            obtain ⟨T', hT'⟩ : ∃ T', T' = T := ⟨_, rfl⟩
            have hT0' : 0 ≤ T' := by omega
            have hT1' : T' ≤ 5 * (k + 1 : Nat) := by omega
            rw [← hT']
            clear hT'
            go_wp2_with fail
            cases L' with
            | nil =>
              refine (qr_first_none HQ5.out).mono ?_; rintro e w' ⟨rfl, rfl⟩
              go_wp2_with fail
              refine (qr_list HQ5.out).mono ?_; rintro e w7 ⟨u, rfl, hU, hQ7⟩
              have HU := Lib.hid hU; have HQ7 := Lib.hid hQ7
              clear hU hQ7 HQ5
              go_wp2_with fail
              refine (qr_rlist HQ7.out HU.out (by simp)).mono ?_; rintro e w8 ⟨u2, rfl, hU2, hU1, hQ8⟩
              have HU1 := Lib.hid hU1; have HU2 := Lib.hid hU2; have HQ8 := Lib.hid hQ8
              clear hU1 hU2 hQ8 HQ7 HU
              go_wp2_with fail
              refine (same_yes _ _ _ _ HU1.out HU2.out).mono ?_; rintro e w9 ⟨rfl, nn, hw9⟩
              have hQ9 : QR w1 w9 (w1.heap.size + 1) w1.heap.size kp most [] [] (k + 1) := by rw [hw9]; exact HQ8.out.grown (below_drewN (Below.refl _ _) nn)
              obtain ⟨ka, kc, hs1, _⟩ := hQ9.shows
              have HQ9 := Lib.hid hQ9
              rw [List.length_nil] at hs1
              clear hw9 hQ9 HQ8 HU1 HU2
              go_wp2_with fail
              go_roundw
              case rel => exact ⟨k + 1, T', [], by omega, by go_num, rfl, hT0', by omega, HQ9.out⟩
              case measure => simp [intOf]; omega
            | cons q M =>
              refine (qr_first_some HQ5.out).mono ?_; rintro e w' ⟨rfl, rfl⟩
              go_wp2_with fail
              refine (qr_list HQ5.out).mono ?_; rintro e w7 ⟨u, rfl, hU, hQ7⟩
              have hl7 := hQ7.facts
              have hl8 : (((q :: M).length : Nat) : Int) ≤ 1000 := by omega
              have HL8 := Lib.hid hl8
              have HU := Lib.hid hU; have HQ7 := Lib.hid hQ7
              clear hU hQ7 HQ5 hl7 hl8
              go_wp2_with fail
              refine (qr_rlist HQ7.out HU.out HL8.out).mono ?_; rintro e w8 ⟨u2, rfl, hU2, hU1, hQ8⟩
              have HU1 := Lib.hid hU1; have HU2 := Lib.hid hU2; have HQ8 := Lib.hid hQ8
              clear hU1 hU2 hQ8 HQ7 HU
              go_wp2_with fail
              refine (same_yes _ _ _ _ HU1.out HU2.out).mono ?_; rintro e w9 ⟨rfl, nn, hw9⟩
              have hQ9 : QR w1 w9 (w1.heap.size + 1) w1.heap.size kp most (q :: M) (q :: M) (k + 1) := by rw [hw9]; exact HQ8.out.grown (below_drewN (Below.refl _ _) nn)
              obtain ⟨ka, kc, hs1, hs2⟩ := hQ9.shows
              obtain ⟨g, rfl, d0⟩ := hs2 q M rfl
              have HQ9 := Lib.hid hQ9
              obtain ⟨n, hn⟩ : ∃ n, n = (q :: M).length := ⟨_, rfl⟩
              have hn0 : (0 : Int) < n := by rw [hn, List.length_cons]; omega
              have hn1 : decide ((0 : Int) < n) = true := decide_eq_true hn0
              rw [← hn] at hs1
              clear hw9 hQ9 HQ8 HU1 HU2 hs2 hn
              go_wp2_with fail
              go_roundw
              case rel => exact ⟨k + 1, T', q :: M, by omega, by go_num, rfl, hT0', by omega, HQ9.out⟩
              case measure => simp [intOf]; omega
      · as_aux_lemma =>
          have HP9 := Lib.hid (fun W => pick_any zn 9 W (by omega) (by omega) hr3)
          have hn1 := pk_lt zn 9 (by omega)
          obtain ⟨m, hm⟩ : ∃ m, m = pk zn 9 := ⟨_, rfl⟩
          rw [← hm] at hn1 HP9
          have hl4 := HQ.out.facts
          have hl5 : (L.length : Int) ≤ 1000 := by omega
          have HR4 := Lib.hid hl4.2.2.2
          have d3 := HD3.out wr (HB1.out.step HQ.out.below hz1)
          have HWW := Lib.hid (HB1.out.step HQ.out.below hz1)
          have HQD := Lib.hid (HQ.out.grown ((Below.refl wr.heap.size wr).drew))
          clear hm hl4 hr3
          go_wp2_with fail
          go_region_held3 (fun w' => w'.cell? ⟨b, off + k * 3 + 2, none⟩ = some (.int .i64 zn)) (first | exact S1 | exact d3) (first
            | (go_at_call 12; refine (HP9.out _).mono ?_; rintro e w' ⟨rfl, rfl⟩)
            | (go_at_call 18; refine (qr_expire HQD.out T m (by omega) (by omega)).mono ?_; rintro e w4 ⟨u, rfl, hU⟩; have S1 := HD3.out w4 (HB1.out.step (below_of hU) hz1); have HU := Lib.hid hU; clear hU)
            | (go_at_call 19; refine (qr_rexpire HU.out T m (by omega) hl5 HR4.out).mono ?_; rintro e w5 ⟨u2, rfl, hU1, hU2, hQ5⟩; have S1 := HD3.out w5 (HB1.out.step hQ5.below hz1); have HU1 := Lib.hid hU1; have HU2 := Lib.hid hU2; have HQ5 := Lib.hid hQ5; clear hU1 hU2 hQ5)
            | (go_at_call 17; refine (same_yes _ _ _ _ HU1.out HU2.out).mono ?_; rintro e w6 ⟨rfl, nn, hw6⟩; have S1 := HD3.out w6 (by rw [hw6]; exact below_drewN (HB1.out.step HQ5.out.below hz1) nn); have HQ6 := Lib.hid (show QR w1 w6 (w1.heap.size + 1) w1.heap.size kp most _ _ k by rw [hw6]; exact HQ5.out.grown (below_drewN (Below.refl _ _) nn)); clear hw6))
          have HQ5 := Lib.hid (HQ6.out.more (show k ≤ k + 1 by omega))
          clear HQ6 HQ HQD HWW d3 HU HU1 HU2 HR4 HP9
          obtain ⟨L', hL'⟩ : ∃ L', L' = L.filter fun q => !rlate T m q := ⟨_, rfl⟩
          rw [← hL'] at HQ5
          clear hL'
          obtain ⟨T', hT'⟩ : ∃ T', T' = T := ⟨_, rfl⟩
          have hT0' : 0 ≤ T' := by omega
          have hT1' : T' ≤ 5 * (k + 1 : Nat) := by omega
          rw [← hT']
          clear hT'
          go_wp2_with fail
          cases L' with
          | nil =>
            refine (qr_first_none HQ5.out).mono ?_; rintro e w' ⟨rfl, rfl⟩
            go_wp2_with fail
            refine (qr_list HQ5.out).mono ?_; rintro e w7 ⟨u, rfl, hU, hQ7⟩
            have HU := Lib.hid hU; have HQ7 := Lib.hid hQ7
            clear hU hQ7 HQ5
            go_wp2_with fail
            refine (qr_rlist HQ7.out HU.out (by simp)).mono ?_; rintro e w8 ⟨u2, rfl, hU2, hU1, hQ8⟩
            have HU1 := Lib.hid hU1; have HU2 := Lib.hid hU2; have HQ8 := Lib.hid hQ8
            clear hU1 hU2 hQ8 HQ7 HU
            go_wp2_with fail
            refine (same_yes _ _ _ _ HU1.out HU2.out).mono ?_; rintro e w9 ⟨rfl, nn, hw9⟩
            have hQ9 : QR w1 w9 (w1.heap.size + 1) w1.heap.size kp most [] [] (k + 1) := by rw [hw9]; exact HQ8.out.grown (below_drewN (Below.refl _ _) nn)
            obtain ⟨ka, kc, hs1, _⟩ := hQ9.shows
            have HQ9 := Lib.hid hQ9
            rw [List.length_nil] at hs1
            clear hw9 hQ9 HQ8 HU1 HU2
            go_wp2_with fail
            go_roundw
            case rel => exact ⟨k + 1, T', [], by omega, by go_num, rfl, hT0', by omega, HQ9.out⟩
            case measure => simp [intOf]; omega
          | cons q M =>
            refine (qr_first_some HQ5.out).mono ?_; rintro e w' ⟨rfl, rfl⟩
            go_wp2_with fail
            refine (qr_list HQ5.out).mono ?_; rintro e w7 ⟨u, rfl, hU, hQ7⟩
            have hl7 := hQ7.facts
            have hl8 : (((q :: M).length : Nat) : Int) ≤ 1000 := by omega
            have HL8 := Lib.hid hl8
            have HU := Lib.hid hU; have HQ7 := Lib.hid hQ7
            clear hU hQ7 HQ5 hl7 hl8
            go_wp2_with fail
            refine (qr_rlist HQ7.out HU.out HL8.out).mono ?_; rintro e w8 ⟨u2, rfl, hU2, hU1, hQ8⟩
            have HU1 := Lib.hid hU1; have HU2 := Lib.hid hU2; have HQ8 := Lib.hid hQ8
            clear hU1 hU2 hQ8 HQ7 HU
            go_wp2_with fail
            refine (same_yes _ _ _ _ HU1.out HU2.out).mono ?_; rintro e w9 ⟨rfl, nn, hw9⟩
            have hQ9 : QR w1 w9 (w1.heap.size + 1) w1.heap.size kp most (q :: M) (q :: M) (k + 1) := by rw [hw9]; exact HQ8.out.grown (below_drewN (Below.refl _ _) nn)
            obtain ⟨ka, kc, hs1, hs2⟩ := hQ9.shows
            obtain ⟨g, rfl, d0⟩ := hs2 q M rfl
            have HQ9 := Lib.hid hQ9
            obtain ⟨n, hn⟩ : ∃ n, n = (q :: M).length := ⟨_, rfl⟩
            have hn0 : (0 : Int) < n := by rw [hn, List.length_cons]; omega
            have hn1 : decide ((0 : Int) < n) = true := decide_eq_true hn0
            rw [← hn] at hs1
            clear hw9 hQ9 HQ8 HU1 HU2 hs2 hn
            go_wp2_with fail
            go_roundw
            case rel => exact ⟨k + 1, T', q :: M, by omega, by go_num, rfl, hT0', by omega, HQ9.out⟩
            case measure => simp [intOf]; omega
      · as_aux_lemma =>
          have HP5 := Lib.hid (fun W => pick_any zn 5 W (by omega) (by omega) hr3)
          have hn1 := pk_lt zn 5 (by omega)
          obtain ⟨m, hm⟩ : ∃ m, m = pk zn 5 := ⟨_, rfl⟩
          rw [← hm] at hn1 HP5
          have d3 := HD3.out wr (HB1.out.step HQ.out.below hz1)
          clear hm hr3
          go_wp2_with fail
          refine (HP5.out _).mono ?_; rintro e w' ⟨rfl, rfl⟩
          have HQ5 := Lib.hid (HQ.out.more (show k ≤ k + 1 by omega))
          clear HQ HP5 d3
          obtain ⟨L', hL'⟩ : ∃ L', L' = L := ⟨_, rfl⟩
          rw [← hL'] at HQ5
          clear hL'
          obtain ⟨T', hT'⟩ : ∃ T', T' = T + m := ⟨_, rfl⟩
          have hT0' : 0 ≤ T' := by omega
          have hT1' : T' ≤ 5 * (k + 1 : Nat) := by omega
          have hTw : T + (m : Int) = T' := hT'.symm
          clear hT'
          go_wp2_with fail
          cases L' with
          | nil =>
            refine (qr_first_none HQ5.out).mono ?_; rintro e w' ⟨rfl, rfl⟩
            go_wp2_with fail
            refine (qr_list HQ5.out).mono ?_; rintro e w7 ⟨u, rfl, hU, hQ7⟩
            have HU := Lib.hid hU; have HQ7 := Lib.hid hQ7
            clear hU hQ7 HQ5
            go_wp2_with fail
            refine (qr_rlist HQ7.out HU.out (by simp)).mono ?_; rintro e w8 ⟨u2, rfl, hU2, hU1, hQ8⟩
            have HU1 := Lib.hid hU1; have HU2 := Lib.hid hU2; have HQ8 := Lib.hid hQ8
            clear hU1 hU2 hQ8 HQ7 HU
            go_wp2_with fail
            refine (same_yes _ _ _ _ HU1.out HU2.out).mono ?_; rintro e w9 ⟨rfl, nn, hw9⟩
            have hQ9 : QR w1 w9 (w1.heap.size + 1) w1.heap.size kp most [] [] (k + 1) := by rw [hw9]; exact HQ8.out.grown (below_drewN (Below.refl _ _) nn)
            obtain ⟨ka, kc, hs1, _⟩ := hQ9.shows
            have HQ9 := Lib.hid hQ9
            rw [List.length_nil] at hs1
            clear hw9 hQ9 HQ8 HU1 HU2
            go_wp2_with fail
            go_roundw
            case rel => exact ⟨k + 1, T', [], by omega, by go_num, rfl, hT0', by omega, HQ9.out⟩
            case measure => simp [intOf]; omega
          | cons q M =>
            refine (qr_first_some HQ5.out).mono ?_; rintro e w' ⟨rfl, rfl⟩
            go_wp2_with fail
            refine (qr_list HQ5.out).mono ?_; rintro e w7 ⟨u, rfl, hU, hQ7⟩
            have hl7 := hQ7.facts
            have hl8 : (((q :: M).length : Nat) : Int) ≤ 1000 := by omega
            have HL8 := Lib.hid hl8
            have HU := Lib.hid hU; have HQ7 := Lib.hid hQ7
            clear hU hQ7 HQ5 hl7 hl8
            go_wp2_with fail
            refine (qr_rlist HQ7.out HU.out HL8.out).mono ?_; rintro e w8 ⟨u2, rfl, hU2, hU1, hQ8⟩
            have HU1 := Lib.hid hU1; have HU2 := Lib.hid hU2; have HQ8 := Lib.hid hQ8
            clear hU1 hU2 hQ8 HQ7 HU
            go_wp2_with fail
            refine (same_yes _ _ _ _ HU1.out HU2.out).mono ?_; rintro e w9 ⟨rfl, nn, hw9⟩
            have hQ9 : QR w1 w9 (w1.heap.size + 1) w1.heap.size kp most (q :: M) (q :: M) (k + 1) := by rw [hw9]; exact HQ8.out.grown (below_drewN (Below.refl _ _) nn)
            obtain ⟨ka, kc, hs1, hs2⟩ := hQ9.shows
            obtain ⟨g, rfl, d0⟩ := hs2 q M rfl
            have HQ9 := Lib.hid hQ9
            obtain ⟨n, hn⟩ : ∃ n, n = (q :: M).length := ⟨_, rfl⟩
            have hn0 : (0 : Int) < n := by rw [hn, List.length_cons]; omega
            have hn1 : decide ((0 : Int) < n) = true := decide_eq_true hn0
            rw [← hn] at hs1
            clear hw9 hQ9 HQ8 HU1 HU2 hs2 hn
            go_wp2_with fail
            go_roundw
            case rel => exact ⟨k + 1, T', q :: M, by omega, by go_num, rfl, hT0', by omega, HQ9.out⟩
            case measure => simp [intOf]; omega
    · obtain rfl : k = len := by omega
      have HB6 := Lib.hid (HB1.out.step HQ.out.below hz1)
      clear HC HCR HQ
      go_wp2_with fail
      go_ret
      exact ⟨rfl, HB6.out⟩

theorem plays_ok (most : Int) (l0 : Option Addr) (len cap : Nat) (c : Nat → Do) (w : World) (hC : len = 0 ∨ ∃ b off, l0 = some ⟨b, off, none⟩ ∧ b < w.heap.size ∧ ActsAt w b off len c) (hcr : ∀ i, i < len → I64 (c i).op ∧ I64 (c i).id ∧ I64 (c i).n) :
    Calls Try.prog 3 #[.int .i64 most, .slice l0 len cap] w fun e w' => e = .returned (.bool true) ∧ Below w.heap.size w w' := by
  by_cases h : len ≤ 200
  · by_cases hm : 1 ≤ most ∧ most ≤ 1000
    · exact plays_walk most l0 len cap c w hm h hC hcr
    · exact plays_none most l0 len cap w h (by omega)
  · exact plays_early most l0 len cap w (by omega)

set_option maxRecDepth 100000 in
theorem plays_lifted (os : Os) (started : os.Started) (H : Type) (enc : TypeId × Value → H) :
    ReturnsInHanded {} Try.checked os 3 .any (Rows.queuePlaysSpec.pre6 enc Try.prog Try.f3 Rows.queuePlaysRow.domain false) (Rows.queuePlaysSpec.post enc Try.prog Try.f3 false true false false) := by
  refine returnsInHanded_of_change (C := Try.checked) own started (by kernel_rfl) Try.func3
    (ChangeSpec.witness6 (enc := enc) (C := Try.checked) false ⟨#[], #[.int .i64 0, .slice none 0 0], []⟩ 8 (by kernel_rfl) (by kernel_rfl) (by kernel_rfl) (by kernel_rfl)) ?_
  intro W base args ds gs before hval0 hW _ _
  have hval : ∀ (j : Nat) t v, Try.f3.params[j]? = some t → args[j]? = some v → Value.okWide Try.prog W .any base t v := hval0
  have hW' := hW
  obtain ⟨p, q, hA0, hV, rfl, _, _⟩ := hW
  have hA : DataW.TrodAll enc Try.prog W 0 (fun _ => true) true Try.f3.params.toList args.toList ds p := hA0
  rw [Try.params3] at hA hval
  obtain ⟨v0, v1, d0, d1, p0, p1, rfl, rfl, rfl, h0, h1⟩ := trodAll_two hA
  obtain ⟨rfl, rfl⟩ := trodVars_none hV
  obtain ⟨most, rfl, rfl, rfl, wf_most⟩ := open_int Try.underlying3 (hval 0 3 v0 rfl rfl) h0
  have h_most := int_range wf_most
  obtain ⟨a1, len, cap, rfl⟩ := okWide_slice Try.underlying22 (hval 1 22 v1 rfl rfl)
  obtain ⟨c, hcr, hC⟩ := open_acts h1
  refine (plays_ok most a1 len cap c W hC hcr).mono fun e W' ⟨he, hb⟩ => ?_
  subst he
  exact ⟨_, rfl, law_shut laidOut (by kernel_rfl) (by kernel_rfl) Try.underlying4 rfl hW' rfl hb⟩

theorem plays_holds : Rows.QueuePlaysSaid :=
  OpenClaim.holds_of_wide 3 Try.f3 rfl rfl rfl rfl rfl rfl rfl ⟨rfl, rfl, rfl, rfl, rfl⟩ rfl rfl rfl rfl rfl (by kernel_rfl) Try.func3 (by kernel_rfl)
    (of_decide_eq_true (by kernel_rfl)) (by unfold Func.isWrapper; rw [if_neg (of_decide_eq_false (by kernel_rfl))]; exact ⟨rfl, rfl⟩)
    (fun os started H enc _ => plays_lifted os started H enc)
end Go.Proofs.Ytcklfdpmggoafaa
