/- A message's fields, written. -/
import Derived.Test.YtfdffiphlpeegaaDoorMPairs
namespace Go.Proofs.YtfdffiphlpeegaaDoor
open Go.RowKit Go.Lib Go.WideShapes

set_option maxRecDepth 100000 in
set_option maxHeartbeats 8000000 in
theorem fields_any (w0 w : World) (s : WS) (hr : room s ≤ 800000) (h : IsW w0 w s) :
    Calls Tryd.prog 57 #[.pointer (some ⟨w0.heap.size, 0, none⟩)] w (WOut w0 (wFields s)) := by
  have hh := h
  obtain ⟨tv, nv, bv, hW⟩ := hh
  obtain ⟨a, n, c, rfl, hl, _, hc9, _⟩ := hW.texts
  have c0 := hW.c0
  have HN := Lib.hid (nextnum_any w0 w s 0 n h)
  obtain ⟨R, hR⟩ : ∃ R, R = wFields s := ⟨_, rfl⟩
  rw [← hR]
  unfold wFields at hR
  rw [hl] at hR
  generalize hx : wNum 0 n s = r at HN hR
  have HX := Lib.hid hx; have HR := Lib.hid hR
  clear hx hR h hW hl
  go_enter Tryd.func57, Tryd.ntmps57
  go_wp2_with fail
  refine HN.out.mono ?_; rintro e w1 (⟨k, s1, rfl, rfl, hW⟩ | ⟨rfl, rfl, hB⟩)
  · have HW := Lib.hid hW
    have hs1 : room s1 ≤ 800000 := by have := (room_num HX.out).2.2; omega
    obtain ⟨hk0, hk1⟩ := num_range HX.out
    have HR := Lib.hid (show R = (rep k.toNat wItem s1).map wZero from HR.out)
    obtain ⟨m, rfl⟩ := Int.eq_ofNat_of_zero_le hk0
    rw [Int.toNat_natCast] at HR
    have hmn : m ≤ n := by omega
    clear hW HX HN hk0 c0
    go_wp2_with fail
    go_loopg [11] m (fun g i wr => ∃ (j : Nat) (s2 : WS), i = .int .i64 j ∧ j ≤ m ∧ g = m - j ∧ rep j wItem s1 = some s2 ∧ room s2 ≤ 800000 ∧ IsW w0 wr s2)
    case atStart => exact ⟨0, s1, rfl, Nat.zero_le _, rfl, rfl, hs1, HW.out⟩
    case round =>
      obtain ⟨j, s2, rfl, hj, hg, hrep, hr2, hW2⟩ := hrel
      have HREP := Lib.hid hrep; have HW2 := Lib.hid hW2; have HG := Lib.hid hg
      clear hrep hW2 hg
      by_cases hlt : j < m
      · have hlt' : (j : Int) < m := by omega
        have HNU := Lib.hid (number_any w0 wr s2 1 255 1 (by omega) (by omega) (by omega) (Nat.le_trans (room_B s2) (by omega)) HW2.out)
        generalize hx : wNumber 1 255 1 s2 = r2 at HNU
        have HX2 := Lib.hid hx
        clear hx
        go_wp2_with fail
        refine HNU.out.mono ?_; rintro e w2 (⟨x, s3, rfl, rfl, hW3⟩ | ⟨rfl, rfl, hB⟩)
        · have HW3 := Lib.hid hW3
          have hr3 : room s3 ≤ 800000 := Nat.le_trans (room_number HX2.out (by omega)).1 hr2
          have HI := Lib.hid (show wItem s2 = wText s3 by unfold wItem; rw [HX2.out]; rfl)
          clear hW3 HNU HX2
          go_wp2_with fail
          refine (text_any w0 w2 s3 (by omega) HW3.out).mono ?_; rintro e w3 (⟨s4, hs4, rfl, hW4⟩ | ⟨hs4, rfl, hB⟩)
          · have HW4 := Lib.hid hW4
            have HN4 := Lib.hid (rep_next HREP.out (HI.out.trans hs4))
            have hr4 : room s4 ≤ 800000 := by have := room_text hs4; omega
            clear hW4 hs4
            go_wp2_with fail
            go_roundg (m - (j + 1))
            case measure => have := HG.out; omega
            case rel => exact ⟨j + 1, s4, by go_num, by omega, rfl, HN4.out, hr4, HW4.out⟩
          · have HN4 := Lib.hid (rep_fail (n := m) HREP.out (HI.out.trans hs4) hlt)
            clear hs4
            go_wp2_with fail
            exact ⟨rfl, .inr ⟨HR.out.trans (by rw [HN4.out]; rfl), rfl, hB⟩⟩
        · have HN4 := Lib.hid (rep_fail (n := m) HREP.out (show wItem s2 = none by unfold wItem; rw [HX2.out]; rfl) hlt)
          go_wp2_with fail
          exact ⟨rfl, .inr ⟨HR.out.trans (by rw [HN4.out]; rfl), rfl, hB⟩⟩
      · obtain rfl : j = m := by omega
        have hbz : s2.B.length ≤ 1000000 := by have := room_B s2; omega
        go_wp2_with fail
        refine (zero_any w0 wr s2 hbz HW2.out).mono ?_; rintro e w3 (⟨s', hs', rfl, hW3⟩ | ⟨hs', _⟩)
        · obtain rfl := Option.some.inj hs'
          go_wp2_with fail
          go_end0
          exact .inl ⟨_, HR.out.trans (by rw [HREP.out]; rfl), rfl, hW3⟩
        · cases hs'
  · go_wp2_with fail
    exact ⟨rfl, .inr ⟨HR.out, rfl, hB⟩⟩

theorem short_room {s s' : WS} (h : wShort s = some s') : room s' ≤ room s := by
  unfold wShort at h
  cases hN : wNumber (-32768) 32767 2 s with
  | none => rw [hN] at h; cases h
  | some p => rw [hN] at h; obtain rfl := Option.some.inj h; exact (room_number (n := p.1) (s' := p.2) hN (by omega)).1
theorem long_room {s s' : WS} (h : wLong s = some s') : room s' ≤ room s := by
  unfold wLong at h
  cases hN : wNumber (-2147483648) 2147483647 4 s with
  | none => rw [hN] at h; cases h
  | some p => rw [hN] at h; obtain rfl := Option.some.inj h; exact (room_number (n := p.1) (s' := p.2) hN (by omega)).1
theorem byte_room {s s' : WS} (h : wByte s = some s') : room s' ≤ room s := by
  unfold wByte at h
  cases hN : wNumber 0 255 1 s with
  | none => rw [hN] at h; cases h
  | some p => rw [hN] at h; obtain rfl := Option.some.inj h; exact (room_number (n := p.1) (s' := p.2) hN (by omega)).1
theorem name_room {s s' : WS} (h : wName s = some s') : room s' ≤ room s := by
  unfold wName at h
  cases hT : wText s with
  | none => rw [hT] at h; cases h
  | some s1 =>
    rw [hT] at h
    obtain rfl := Option.some.inj h
    have := room_text hT
    unfold room at this ⊢
    show (s1.B ++ List.replicate 18 0).length + ((s1.T.map fun t => t.length + 19).sum + 4 * s1.N.length) ≤ _
    rw [List.length_append, List.length_replicate]
    omega
theorem raw_room {n : Int} {s s' : WS} (h : wRaw n s = some s') : room s' ≤ room s := by
  unfold wRaw at h
  cases hT : s.T with
  | nil => rw [hT] at h; cases h
  | cons t ts =>
    rw [hT] at h
    simp only at h
    split at h
    · obtain rfl := Option.some.inj h
      unfold room
      rw [hT, List.map_cons, List.sum_cons]
      show (s.B ++ t).length + ((ts.map fun t => t.length + 19).sum + 4 * s.N.length) ≤ _
      rw [List.length_append]
      omega
    · cases h
theorem value_room {s s' : WS} (h : wValue s = some s') : room s' ≤ room s := by
  unfold wValue at h
  cases hN : wNumber (-1) 10000 4 s with
  | none => rw [hN] at h; cases h
  | some p =>
    obtain ⟨n, s1⟩ := p
    have h1 := (room_number hN (by omega)).1
    rw [hN] at h
    have h : (if n < 0 then some s1 else wRaw n s1) = some s' := h
    split at h
    · obtain rfl := Option.some.inj h; exact h1
    · exact Nat.le_trans (raw_room h) h1

end Go.Proofs.YtfdffiphlpeegaaDoor
