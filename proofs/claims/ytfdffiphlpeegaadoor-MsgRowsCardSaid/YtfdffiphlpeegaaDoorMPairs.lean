/- The fields of a message, written: pairs, and fields of an error. -/
import Derived.Test.YtfdffiphlpeegaaDoorMRows
namespace Go.Proofs.YtfdffiphlpeegaaDoor
open Go.RowKit Go.Lib Go.WideShapes

theorem pair_room {s s' : WS} (h : wPair s = some s') : room s' ≤ room s ∧ s'.T = s.T.drop 1 := by
  unfold wPair at h
  cases hT : s.T with
  | nil => rw [hT] at h; cases h
  | cons t ts =>
    rw [hT] at h
    simp only at h
    split at h
    · cases h
    · refine ⟨by have := room_text h; omega, ?_⟩
      unfold wText at h
      rw [hT] at h
      simp only at h
      split at h
      · cases h
      · rw [← Option.some.inj h]; rfl
theorem text_drop {s s' : WS} (h : wText s = some s') : s'.T = s.T.drop 1 := by
  unfold wText at h
  cases hT : s.T with
  | nil => rw [hT] at h; cases h
  | cons t ts =>
    rw [hT] at h
    simp only at h
    split at h
    · cases h
    · rw [← Option.some.inj h]; rfl
theorem item_room {s s' : WS} (h : wItem s = some s') : room s' ≤ room s := by
  unfold wItem at h
  cases hN : wNumber 1 255 1 s with
  | none => rw [hN] at h; cases h
  | some p =>
    obtain ⟨n, s1⟩ := p
    rw [hN] at h
    have h : wText s1 = some s' := h
    have h1 := room_text h
    have h2 := (room_number hN (by omega)).1
    omega

set_option maxRecDepth 100000 in
set_option maxHeartbeats 8000000 in
theorem pairs_any (w0 w : World) (s : WS) (hr : room s ≤ 800000) (h : IsW w0 w s) :
    Calls Tryd.prog 56 #[.pointer (some ⟨w0.heap.size, 0, none⟩)] w (WOut w0 (wPairs s)) := by
  have hh := h
  obtain ⟨tv, nv, bv, hW⟩ := hh
  obtain ⟨a, n, c, rfl, hl, _, hc9, _⟩ := hW.texts
  have c0 := hW.c0
  have HN := Lib.hid (nextnum_any w0 w s 0 n h)
  obtain ⟨R, hR⟩ : ∃ R, R = wPairs s := ⟨_, rfl⟩
  rw [← hR]
  unfold wPairs at hR
  rw [hl] at hR
  generalize hx : wNum 0 n s = r at HN hR
  have HX := Lib.hid hx; have HR := Lib.hid hR; have HL := Lib.hid hl
  clear hx hR h hW hl
  go_enter Tryd.func56, Tryd.ntmps56
  go_wp2_with fail
  refine HN.out.mono ?_; rintro e w1 (⟨k, s1, rfl, rfl, hW⟩ | ⟨rfl, rfl, hB⟩)
  · have HW := Lib.hid hW
    have hs1 : room s1 ≤ 800000 := by have := (room_num HX.out).2.2; omega
    obtain ⟨hk0, hk1⟩ := num_range HX.out
    have HT1 := Lib.hid (show s1.T.length = n by rw [(room_num HX.out).2.1]; exact HL.out)
    have HR := Lib.hid (show R = if k % 2 = 0 then (rep k.toNat wPair s1).map wZero else none from HR.out)
    obtain ⟨m, rfl⟩ := Int.eq_ofNat_of_zero_le hk0
    rw [Int.toNat_natCast] at HR
    have hmn : m ≤ n := by omega
    clear hW HX HN hk0 c0
    by_cases h2 : (m : Int) % 2 = 0
    · have HR := Lib.hid (show R = (rep m wPair s1).map wZero by rw [HR.out, if_pos h2])
      have h2b : ((m : Int) % 2 == 0) = true := by rw [beq_iff_eq]; exact h2
      clear h2
      go_wp2_with fail
      refine (demand_ok _).mono ?_; rintro e w2 ⟨rfl, rfl⟩
      clear h2b
      go_wp2_with fail
      go_loopg [15] m (fun g i wr => ∃ (j : Nat) (s2 : WS), i = .int .i64 j ∧ j ≤ m ∧ g = m - j ∧ rep j wPair s1 = some s2 ∧ s2.T.length = n - j ∧ room s2 ≤ 800000 ∧ IsW w0 wr s2)
      case atStart => exact ⟨0, s1, rfl, Nat.zero_le _, rfl, rfl, HT1.out, hs1, HW.out⟩
      case round =>
        obtain ⟨j, s2, rfl, hj, hg, hrep, htl, hr2, hW2⟩ := hrel
        have HREP := Lib.hid hrep; have HW2 := Lib.hid hW2; have HG := Lib.hid hg; have HTL := Lib.hid htl
        clear hrep hW2 hg htl
        by_cases hlt : j < m
        · have hlt' : (j : Int) < m := by omega
          obtain ⟨tv, nv, bv, hWA⟩ := HW2.out
          obtain ⟨a2, n2, c2, rfl, hl2, hn2, hc2, _⟩ := hWA.texts
          have hd0 := hWA.c0
          have HTX := Lib.hid hWA.texts
          have HBL := Lib.hid hWA.below
          have HTE := Lib.hid (text_any w0 wr s2 (by omega) HW2.out)
          obtain ⟨T, N, B⟩ := s2
          clear hWA
          cases T with
          | nil => exfalso; have := HTL.out; rw [show (WS.mk [] N B).T.length = 0 from rfl] at this; omega
          | cons t ts =>
            obtain ⟨g, off, rfl, hgl, hcell, hp1, _⟩ := HTX.out.tail
            have d0 := (HBL.out.cell (p := ⟨g, off, none⟩) hgl).trans hcell
            have hp1' : (1 : Int) ≤ n2 := by omega
            have hp2' : 0 < n2 := by omega
            clear hcell
            by_cases ht : t = []
            · subst ht
              have HN3 := Lib.hid (rep_fail (n := m) HREP.out (show wPair ⟨[] :: ts, N, B⟩ = none from rfl) hlt)
              go_wp2_with fail
              refine (demand_no _).mono ?_; rintro e w2 ⟨rfl, rfl⟩
              go_wp2_with fail
              exact ⟨rfl, .inr ⟨HR.out.trans (by rw [HN3.out]; rfl), rfl, HBL.out⟩⟩
            · have HPE := Lib.hid (show wPair ⟨t :: ts, N, B⟩ = wText ⟨t :: ts, N, B⟩ by unfold wPair; simp only; rw [if_neg ht])
              have hte : t.isEmpty = false := by cases t with
                | nil => exact absurd rfl ht
                | cons x y => rfl
              have hne : (t == []) = false := by cases t with
                | nil => exact absurd rfl ht
                | cons x y => rfl
              clear ht
              go_wp2_with fail
              refine (demand_ok _).mono ?_; rintro e w2 ⟨rfl, rfl⟩
              go_wp2_with fail
              refine HTE.out.mono ?_; rintro e w2 (⟨s3, hs3, rfl, hW3⟩ | ⟨hs3, rfl, hB⟩)
              · have HW3 := Lib.hid hW3
                have HN3 := Lib.hid (rep_next HREP.out (HPE.out.trans hs3))
                have hr3 : room s3 ≤ 800000 := by have := room_text hs3; omega
                have HTL3 := Lib.hid (show s3.T.length = n - (j + 1) by rw [text_drop hs3, List.length_drop, HTL.out]; omega)
                clear hW3 hs3
                go_wp2_with fail
                go_roundg (m - (j + 1))
                case measure => have := HG.out; omega
                case rel => exact ⟨j + 1, s3, by go_num, by omega, rfl, HN3.out, HTL3.out, hr3, HW3.out⟩
              · have HN3 := Lib.hid (rep_fail (n := m) HREP.out (HPE.out.trans hs3) hlt)
                clear hs3
                go_wp2_with fail
                exact ⟨rfl, .inr ⟨HR.out.trans (by rw [HN3.out]; rfl), rfl, hB⟩⟩
        · obtain rfl : j = m := by omega
          have hbz : s2.B.length ≤ 1000000 := by have := room_B s2; omega
          go_wp2_with fail
          refine (zero_any w0 wr s2 hbz HW2.out).mono ?_; rintro e w3 (⟨s', hs', rfl, hW3⟩ | ⟨hs', _⟩)
          · obtain rfl := Option.some.inj hs'
            go_wp2_with fail
            go_end0
            exact .inl ⟨_, HR.out.trans (by rw [HREP.out]; rfl), rfl, hW3⟩
          · cases hs'
    · have HR := Lib.hid (show R = none by rw [HR.out, if_neg h2])
      have h2b : ((m : Int) % 2 == 0) = false := by rw [beq_eq_false_iff_ne]; exact h2
      obtain ⟨tv, nv, bv, hWB⟩ := HW.out
      have HBL := Lib.hid hWB.below
      clear h2 hWB
      go_wp2_with fail
      refine (demand_no _).mono ?_; rintro e w2 ⟨rfl, rfl⟩
      go_wp2_with fail
      exact ⟨rfl, .inr ⟨HR.out, rfl, HBL.out⟩⟩
  · go_wp2_with fail
    exact ⟨rfl, .inr ⟨HR.out, rfl, hB⟩⟩
end Go.Proofs.YtfdffiphlpeegaaDoor
