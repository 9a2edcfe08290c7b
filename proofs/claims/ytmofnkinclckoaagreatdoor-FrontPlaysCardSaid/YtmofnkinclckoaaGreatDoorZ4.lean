/- Contracts and mathematics: MField, MKind, MLay. -/
import Derived.Test.YtmofnkinclckoaaGreatDoorZ3
namespace Go.Proofs.YtmofnkinclckoaaGreatDoor
open Go.RowKit Go.Lib Go.WideShapes

set_option maxRecDepth 100000 in
set_option maxHeartbeats 8000000 in
theorem fields_any (w0 w : World) (s : WS) (hr : room s ≤ 800000) (h : IsW w0 w s) :
    Calls Tryz.prog 69 #[.pointer (some ⟨w0.heap.size, 0, none⟩)] w (WOut w0 (wFields s)) := by
  have hh := h
  obtain ⟨tv, nv, bv, hW⟩ := hh
  obtain ⟨a, n, c, rfl, hl, _, hc9, _⟩ := hW.texts
  have c0 := hW.c0
  have HN := Lib.hid (nextnum_any w0 w s 0 n h)
  obtain ⟨R, hR⟩ : ∃ R, R = wFields s := ⟨_, rfl⟩
  rw [← hR]
  unfold wFields at hR
  rw [hl] at hR
  generalize hx : wNum 0 n s = r at HN hR
  have HX := Lib.hid hx; have HR := Lib.hid hR
  clear hx hR h hW hl
  go_enter Tryz.func69, Tryz.ntmps69
  go_wp2_with fail
  refine HN.out.mono ?_; rintro e w1 (⟨k, s1, rfl, rfl, hW⟩ | ⟨rfl, rfl, hB⟩)
  · have HW := Lib.hid hW
    have hs1 : room s1 ≤ 800000 := by have := (room_num HX.out).2.2; omega
    obtain ⟨hk0, hk1⟩ := num_range HX.out
    have HR := Lib.hid (show R = (rep k.toNat wItem s1).map wZero from HR.out)
    obtain ⟨m, rfl⟩ := Int.eq_ofNat_of_zero_le hk0
    rw [Int.toNat_natCast] at HR
    have hmn : m ≤ n := by omega
    clear hW HX HN hk0 c0
    go_wp2_with fail
    go_loopg [11] m (fun g i wr => ∃ (j : Nat) (s2 : WS), i = .int .i64 j ∧ j ≤ m ∧ g = m - j ∧ rep j wItem s1 = some s2 ∧ room s2 ≤ 800000 ∧ IsW w0 wr s2)
    case atStart => exact ⟨0, s1, rfl, Nat.zero_le _, rfl, rfl, hs1, HW.out⟩
    case round =>
      obtain ⟨j, s2, rfl, hj, hg, hrep, hr2, hW2⟩ := hrel
      have HREP := Lib.hid hrep; have HW2 := Lib.hid hW2; have HG := Lib.hid hg
      clear hrep hW2 hg
      by_cases hlt : j < m
      · have hlt' : (j : Int) < m := by omega
        have HNU := Lib.hid (number_anyM w0 wr s2 1 255 1 (by omega) (by omega) (by omega) (Nat.le_trans (room_B s2) (by omega)) HW2.out)
        generalize hx : wNumber 1 255 1 s2 = r2 at HNU
        have HX2 := Lib.hid hx
        clear hx
        go_wp2_with fail
        refine HNU.out.mono ?_; rintro e w2 (⟨x, s3, rfl, rfl, hW3⟩ | ⟨rfl, rfl, hB⟩)
        · have HW3 := Lib.hid hW3
          have hr3 : room s3 ≤ 800000 := Nat.le_trans (room_number HX2.out (by omega)).1 hr2
          have HI := Lib.hid (show wItem s2 = wText s3 by unfold wItem; rw [HX2.out]; rfl)
          clear hW3 HNU HX2
          go_wp2_with fail
          refine (text_any w0 w2 s3 (by omega) HW3.out).mono ?_; rintro e w3 (⟨s4, hs4, rfl, hW4⟩ | ⟨hs4, rfl, hB⟩)
          · have HW4 := Lib.hid hW4
            have HN4 := Lib.hid (rep_next HREP.out (HI.out.trans hs4))
            have hr4 : room s4 ≤ 800000 := by have := room_text hs4; omega
            clear hW4 hs4
            go_wp2_with fail
            go_roundg (m - (j + 1))
            case measure => have := HG.out; omega
            case rel => exact ⟨j + 1, s4, by go_num, by omega, rfl, HN4.out, hr4, HW4.out⟩
          · have HN4 := Lib.hid (rep_fail (n := m) HREP.out (HI.out.trans hs4) hlt)
            clear hs4
            go_wp2_with fail
            exact ⟨rfl, .inr ⟨HR.out.trans (by rw [HN4.out]; rfl), rfl, hB⟩⟩
        · have HN4 := Lib.hid (rep_fail (n := m) HREP.out (show wItem s2 = none by unfold wItem; rw [HX2.out]; rfl) hlt)
          go_wp2_with fail
          exact ⟨rfl, .inr ⟨HR.out.trans (by rw [HN4.out]; rfl), rfl, hB⟩⟩
      · obtain rfl : j = m := by omega
        have hbz : s2.B.length ≤ 1000000 := by have := room_B s2; omega
        go_wp2_with fail
        refine (zero_any w0 wr s2 hbz HW2.out).mono ?_; rintro e w3 (⟨s', hs', rfl, hW3⟩ | ⟨hs', _⟩)
        · obtain rfl := Option.some.inj hs'
          go_wp2_with fail
          go_end0
          exact .inl ⟨_, HR.out.trans (by rw [HREP.out]; rfl), rfl, hW3⟩
        · cases hs'
  · go_wp2_with fail
    exact ⟨rfl, .inr ⟨HR.out, rfl, hB⟩⟩

theorem short_room {s s' : WS} (h : wShort s = some s') : room s' ≤ room s := by
  unfold wShort at h
  cases hN : wNumber (-32768) 32767 2 s with
  | none => rw [hN] at h; cases h
  | some p => rw [hN] at h; obtain rfl := Option.some.inj h; exact (room_number (n := p.1) (s' := p.2) hN (by omega)).1
theorem long_room {s s' : WS} (h : wLong s = some s') : room s' ≤ room s := by
  unfold wLong at h
  cases hN : wNumber (-2147483648) 2147483647 4 s with
  | none => rw [hN] at h; cases h
  | some p => rw [hN] at h; obtain rfl := Option.some.inj h; exact (room_number (n := p.1) (s' := p.2) hN (by omega)).1
theorem byte_room {s s' : WS} (h : wByte s = some s') : room s' ≤ room s := by
  unfold wByte at h
  cases hN : wNumber 0 255 1 s with
  | none => rw [hN] at h; cases h
  | some p => rw [hN] at h; obtain rfl := Option.some.inj h; exact (room_number (n := p.1) (s' := p.2) hN (by omega)).1
theorem name_room {s s' : WS} (h : wName s = some s') : room s' ≤ room s := by
  unfold wName at h
  cases hT : wText s with
  | none => rw [hT] at h; cases h
  | some s1 =>
    rw [hT] at h
    obtain rfl := Option.some.inj h
    have := room_text hT
    unfold room at this ⊢
    show (s1.B ++ List.replicate 18 0).length + ((s1.T.map fun t => t.length + 19).sum + 4 * s1.N.length) ≤ _
    rw [List.length_append, List.length_replicate]
    omega
theorem raw_room {n : Int} {s s' : WS} (h : wRaw n s = some s') : room s' ≤ room s := by
  unfold wRaw at h
  cases hT : s.T with
  | nil => rw [hT] at h; cases h
  | cons t ts =>
    rw [hT] at h
    simp only at h
    split at h
    · obtain rfl := Option.some.inj h
      unfold room
      rw [hT, List.map_cons, List.sum_cons]
      show (s.B ++ t).length + ((ts.map fun t => t.length + 19).sum + 4 * s.N.length) ≤ _
      rw [List.length_append]
      omega
    · cases h
theorem value_room {s s' : WS} (h : wValue s = some s') : room s' ≤ room s := by
  unfold wValue at h
  cases hN : wNumber (-1) 10000 4 s with
  | none => rw [hN] at h; cases h
  | some p =>
    obtain ⟨n, s1⟩ := p
    have h1 := (room_number hN (by omega)).1
    rw [hN] at h
    have h : (if n < 0 then some s1 else wRaw n s1) = some s' := h
    split at h
    · obtain rfl := Option.some.inj h; exact h1
    · exact Nat.le_trans (raw_room h) h1

end Go.Proofs.YtmofnkinclckoaaGreatDoor

namespace Go.Proofs.YtmofnkinclckoaaGreatDoor
open Go.RowKit Go.Lib Go.WideShapes

set_option maxRecDepth 100000 in
set_option maxHeartbeats 4000000 in
theorem field_115 (w0 w : World) (s : WS) (hr : room s ≤ 800000) (h : IsW w0 w s) :
    Calls Tryz.prog 44 #[.pointer (some ⟨w0.heap.size, 0, none⟩), .int .u8 115] w (WOut w0 (wText s)) := by
  have HN := Lib.hid (text_any w0 w s (by omega) h)
  obtain ⟨R, hR⟩ : ∃ R, R = wText s := ⟨_, rfl⟩
  rw [← hR] at HN ⊢
  clear hR h hr
  go_enter Tryz.func44, Tryz.ntmps44
  go_wp2_with fail
  refine HN.out.mono ?_; rintro e w1 (⟨s1, hs, rfl, hW⟩ | ⟨hs, rfl, hB⟩)
  · have HS := Lib.hid hs; have HW := Lib.hid hW
    clear hs hW
    go_wp2_with fail
    go_end0
    exact .inl ⟨s1, HS.out, rfl, HW.out⟩
  · have HS := Lib.hid hs
    clear hs
    go_wp2_with fail
    exact ⟨rfl, .inr ⟨HS.out, rfl, hB⟩⟩

set_option maxRecDepth 100000 in
set_option maxHeartbeats 4000000 in
theorem field_98 (w0 w : World) (s : WS) (hr : room s ≤ 800000) (h : IsW w0 w s) :
    Calls Tryz.prog 44 #[.pointer (some ⟨w0.heap.size, 0, none⟩), .int .u8 98] w (WOut w0 (wByte s)) := by
  have HN := Lib.hid (number_anyM w0 w s 0 255 1 (by omega) (by omega) (by omega) (Nat.le_trans (room_B s) (by omega)) h)
  obtain ⟨R, hR⟩ : ∃ R, R = wByte s := ⟨_, rfl⟩
  rw [← hR]
  unfold wByte at hR
  generalize hx : wNumber 0 255 1 s = r at HN hR
  have HR := Lib.hid hR
  clear hx hR h hr
  go_enter Tryz.func44, Tryz.ntmps44
  go_wp2_with fail
  refine HN.out.mono ?_; rintro e w1 (⟨k, s1, rfl, rfl, hW⟩ | ⟨rfl, rfl, hB⟩)
  · have HW := Lib.hid hW
    clear hW
    go_wp2_with fail
    go_end0
    exact .inl ⟨s1, HR.out, rfl, HW.out⟩
  · go_wp2_with fail
    exact ⟨rfl, .inr ⟨HR.out, rfl, hB⟩⟩

set_option maxRecDepth 100000 in
set_option maxHeartbeats 4000000 in
theorem field_105 (w0 w : World) (s : WS) (hr : room s ≤ 800000) (h : IsW w0 w s) :
    Calls Tryz.prog 44 #[.pointer (some ⟨w0.heap.size, 0, none⟩), .int .u8 105] w (WOut w0 (wLong s)) := by
  have HN := Lib.hid (long_any w0 w s (by omega) h)
  obtain ⟨R, hR⟩ : ∃ R, R = wLong s := ⟨_, rfl⟩
  rw [← hR] at HN ⊢
  clear hR h hr
  go_enter Tryz.func44, Tryz.ntmps44
  go_wp2_with fail
  refine HN.out.mono ?_; rintro e w1 (⟨s1, hs, rfl, hW⟩ | ⟨hs, rfl, hB⟩)
  · have HS := Lib.hid hs; have HW := Lib.hid hW
    clear hs hW
    go_wp2_with fail
    go_end0
    exact .inl ⟨s1, HS.out, rfl, HW.out⟩
  · have HS := Lib.hid hs
    clear hs
    go_wp2_with fail
    exact ⟨rfl, .inr ⟨HS.out, rfl, hB⟩⟩

set_option maxRecDepth 100000 in
set_option maxHeartbeats 4000000 in
theorem field_112 (w0 w : World) (s : WS) (hr : room s ≤ 800000) (h : IsW w0 w s) :
    Calls Tryz.prog 44 #[.pointer (some ⟨w0.heap.size, 0, none⟩), .int .u8 112] w (WOut w0 (wPairs s)) := by
  have HN := Lib.hid (pairs_any w0 w s hr h)
  obtain ⟨R, hR⟩ : ∃ R, R = wPairs s := ⟨_, rfl⟩
  rw [← hR] at HN ⊢
  clear hR h hr
  go_enter Tryz.func44, Tryz.ntmps44
  go_wp2_with fail
  refine HN.out.mono ?_; rintro e w1 (⟨s1, hs, rfl, hW⟩ | ⟨hs, rfl, hB⟩)
  · have HS := Lib.hid hs; have HW := Lib.hid hW
    clear hs hW
    go_wp2_with fail
    go_end0
    exact .inl ⟨s1, HS.out, rfl, HW.out⟩
  · have HS := Lib.hid hs
    clear hs
    go_wp2_with fail
    exact ⟨rfl, .inr ⟨HS.out, rfl, hB⟩⟩

set_option maxRecDepth 100000 in
set_option maxHeartbeats 4000000 in
theorem field_102 (w0 w : World) (s : WS) (hr : room s ≤ 800000) (h : IsW w0 w s) :
    Calls Tryz.prog 44 #[.pointer (some ⟨w0.heap.size, 0, none⟩), .int .u8 102] w (WOut w0 (wFields s)) := by
  have HN := Lib.hid (fields_any w0 w s hr h)
  obtain ⟨R, hR⟩ : ∃ R, R = wFields s := ⟨_, rfl⟩
  rw [← hR] at HN ⊢
  clear hR h hr
  go_enter Tryz.func44, Tryz.ntmps44
  go_wp2_with fail
  refine HN.out.mono ?_; rintro e w1 (⟨s1, hs, rfl, hW⟩ | ⟨hs, rfl, hB⟩)
  · have HS := Lib.hid hs; have HW := Lib.hid hW
    clear hs hW
    go_wp2_with fail
    go_end0
    exact .inl ⟨s1, HS.out, rfl, HW.out⟩
  · have HS := Lib.hid hs
    clear hs
    go_wp2_with fail
    exact ⟨rfl, .inr ⟨HS.out, rfl, hB⟩⟩

set_option maxRecDepth 100000 in
set_option maxHeartbeats 4000000 in
theorem field_99 (w0 w : World) (s : WS) (hr : room s ≤ 800000) (h : IsW w0 w s) :
    Calls Tryz.prog 44 #[.pointer (some ⟨w0.heap.size, 0, none⟩), .int .u8 99] w (WOut w0 (wCounted wShort s)) := by
  have HN := Lib.hid (counted_short w0 w s wShort (fun W s hr h => short_any w0 W s (by omega) h) (fun _ _ h => short_room h) hr h)
  obtain ⟨R, hR⟩ : ∃ R, R = wCounted wShort s := ⟨_, rfl⟩
  rw [← hR] at HN ⊢
  clear hR h hr
  go_enter Tryz.func44, Tryz.ntmps44
  go_wp2_with fail
  refine HN.out.mono ?_; rintro e w1 (⟨s1, hs, rfl, hW⟩ | ⟨hs, rfl, hB⟩)
  · have HS := Lib.hid hs; have HW := Lib.hid hW
    clear hs hW
    go_wp2_with fail
    go_end0
    exact .inl ⟨s1, HS.out, rfl, HW.out⟩
  · have HS := Lib.hid hs
    clear hs
    go_wp2_with fail
    exact ⟨rfl, .inr ⟨HS.out, rfl, hB⟩⟩

set_option maxRecDepth 100000 in
set_option maxHeartbeats 4000000 in
theorem field_108 (w0 w : World) (s : WS) (hr : room s ≤ 800000) (h : IsW w0 w s) :
    Calls Tryz.prog 44 #[.pointer (some ⟨w0.heap.size, 0, none⟩), .int .u8 108] w (WOut w0 (wCounted wLong s)) := by
  have HN := Lib.hid (counted_long w0 w s wLong (fun W s hr h => long_any w0 W s (by omega) h) (fun _ _ h => long_room h) hr h)
  obtain ⟨R, hR⟩ : ∃ R, R = wCounted wLong s := ⟨_, rfl⟩
  rw [← hR] at HN ⊢
  clear hR h hr
  go_enter Tryz.func44, Tryz.ntmps44
  go_wp2_with fail
  refine HN.out.mono ?_; rintro e w1 (⟨s1, hs, rfl, hW⟩ | ⟨hs, rfl, hB⟩)
  · have HS := Lib.hid hs; have HW := Lib.hid hW
    clear hs hW
    go_wp2_with fail
    go_end0
    exact .inl ⟨s1, HS.out, rfl, HW.out⟩
  · have HS := Lib.hid hs
    clear hs
    go_wp2_with fail
    exact ⟨rfl, .inr ⟨HS.out, rfl, hB⟩⟩

set_option maxRecDepth 100000 in
set_option maxHeartbeats 4000000 in
theorem field_118 (w0 w : World) (s : WS) (hr : room s ≤ 800000) (h : IsW w0 w s) :
    Calls Tryz.prog 44 #[.pointer (some ⟨w0.heap.size, 0, none⟩), .int .u8 118] w (WOut w0 (wCounted wValue s)) := by
  have HN := Lib.hid (counted_value w0 w s wValue (fun W s hr h => value_anyM w0 W s hr h) (fun _ _ h => value_room h) hr h)
  obtain ⟨R, hR⟩ : ∃ R, R = wCounted wValue s := ⟨_, rfl⟩
  rw [← hR] at HN ⊢
  clear hR h hr
  go_enter Tryz.func44, Tryz.ntmps44
  go_wp2_with fail
  refine HN.out.mono ?_; rintro e w1 (⟨s1, hs, rfl, hW⟩ | ⟨hs, rfl, hB⟩)
  · have HS := Lib.hid hs; have HW := Lib.hid hW
    clear hs hW
    go_wp2_with fail
    go_end0
    exact .inl ⟨s1, HS.out, rfl, HW.out⟩
  · have HS := Lib.hid hs
    clear hs
    go_wp2_with fail
    exact ⟨rfl, .inr ⟨HS.out, rfl, hB⟩⟩

set_option maxRecDepth 100000 in
set_option maxHeartbeats 4000000 in
theorem field_109 (w0 w : World) (s : WS) (hr : room s ≤ 800000) (h : IsW w0 w s) :
    Calls Tryz.prog 44 #[.pointer (some ⟨w0.heap.size, 0, none⟩), .int .u8 109] w (WOut w0 (wCounted wName s)) := by
  have HN := Lib.hid (counted_name w0 w s wName (fun W s hr h => name_any w0 W s hr h) (fun _ _ h => name_room h) hr h)
  obtain ⟨R, hR⟩ : ∃ R, R = wCounted wName s := ⟨_, rfl⟩
  rw [← hR] at HN ⊢
  clear hR h hr
  go_enter Tryz.func44, Tryz.ntmps44
  go_wp2_with fail
  refine HN.out.mono ?_; rintro e w1 (⟨s1, hs, rfl, hW⟩ | ⟨hs, rfl, hB⟩)
  · have HS := Lib.hid hs; have HW := Lib.hid hW
    clear hs hW
    go_wp2_with fail
    go_end0
    exact .inl ⟨s1, HS.out, rfl, HW.out⟩
  · have HS := Lib.hid hs
    clear hs
    go_wp2_with fail
    exact ⟨rfl, .inr ⟨HS.out, rfl, hB⟩⟩

set_option maxRecDepth 100000 in
set_option maxHeartbeats 8000000 in
theorem field_any (w0 w : World) (s : WS) (c : UInt8) (hr : room s ≤ 800000) (h : IsW w0 w s) :
    Calls Tryz.prog 44 #[.pointer (some ⟨w0.heap.size, 0, none⟩), .int .u8 (c.toNat : Nat)] w (WOut w0 (wField c s)) := by
  have hne : ∀ k : UInt8, ¬ c = k → ((c.toNat : Int) == (k.toNat : Nat)) = false := by
    intro k hk
    cases hb : ((c.toNat : Int) == (k.toNat : Nat)) with
    | false => rfl
    | true => exact absurd (UInt8.toNat_inj.mp (Int.ofNat.inj (eq_of_beq hb))) hk
  by_cases h115 : c = 115
  · subst h115
    exact field_115 w0 w s hr h
  by_cases h98 : c = 98
  · subst h98
    exact field_98 w0 w s hr h
  by_cases h105 : c = 105
  · subst h105
    exact field_105 w0 w s hr h
  by_cases h112 : c = 112
  · subst h112
    exact field_112 w0 w s hr h
  by_cases h102 : c = 102
  · subst h102
    exact field_102 w0 w s hr h
  by_cases h99 : c = 99
  · subst h99
    exact field_99 w0 w s hr h
  by_cases h108 : c = 108
  · subst h108
    exact field_108 w0 w s hr h
  by_cases h118 : c = 118
  · subst h118
    exact field_118 w0 w s hr h
  by_cases h109 : c = 109
  · subst h109
    exact field_109 w0 w s hr h
  have HE := Lib.hid (show wField c s = some s by unfold wField; rw [if_neg h115, if_neg h98, if_neg h105, if_neg h112, if_neg h102, if_neg h99, if_neg h108, if_neg h118, if_neg h109])
  have b115 : ((c.toNat : Int) == 115) = false := hne 115 h115
  have b98 : ((c.toNat : Int) == 98) = false := hne 98 h98
  have b105 : ((c.toNat : Int) == 105) = false := hne 105 h105
  have b112 : ((c.toNat : Int) == 112) = false := hne 112 h112
  have b102 : ((c.toNat : Int) == 102) = false := hne 102 h102
  have b99 : ((c.toNat : Int) == 99) = false := hne 99 h99
  have b108 : ((c.toNat : Int) == 108) = false := hne 108 h108
  have b118 : ((c.toNat : Int) == 118) = false := hne 118 h118
  have b109 : ((c.toNat : Int) == 109) = false := hne 109 h109
  generalize (c.toNat : Int) = x at *
  clear hne hr
  go_enter Tryz.func44, Tryz.ntmps44
  go_wp2_with fail
  go_end0
  exact .inl ⟨s, HE.out, rfl, h⟩

end Go.Proofs.YtmofnkinclckoaaGreatDoor

namespace Go.Proofs.YtmofnkinclckoaaGreatDoor
open Go.RowKit Go.Lib Go.WideShapes

def layS (c : UInt8) : Option Bs :=
  if c = 82 then some [105]
  else if c = 83 then some [115, 115]
  else if c = 75 then some [105, 105]
  else if c = 90 then some [98]
  else if c = 67 then some [115]
  else if c = 69 then some [102]
  else if c = 78 then some [102]
  else if c = 84 then some [109]
  else if c = 68 then some [118]
  else if c = 73 then some []
  else if c = 49 then some []
  else if c = 50 then some []
  else if c = 51 then some []
  else if c = 110 then some []
  else if c = 115 then some []
  else none
def layC (c : UInt8) : Option Bs :=
  if c = 0 then some [105, 112]
  else if c = 81 then some [115]
  else if c = 112 then some [115]
  else if c = 88 then some []
  else if c = 83 then some []
  else if c = 72 then some []
  else if c = 80 then some [115, 115, 108]
  else if c = 66 then some [115, 115, 99, 118, 99]
  else if c = 69 then some [115, 105]
  else if c = 68 then some [98, 115]
  else if c = 67 then some [98, 115]
  else none
def lay (back : Bool) (c : UInt8) : Option Bs := if back then layS c else layC c
def layV (r : Option Bs) : Value := .tuple #[.string ⟨(r.getD []).toArray⟩, .bool r.isSome]

set_option maxRecDepth 100000 in
set_option maxHeartbeats 8000000 in
theorem layS_any (w : World) (c : UInt8) :
    Calls Tryz.prog 45 #[.int .u8 (c.toNat : Nat)] w fun e w' => e = .returned (layV (layS c)) ∧ w = w' := by
  have hne : ∀ k : UInt8, ¬ c = k → ((c.toNat : Int) == (k.toNat : Nat)) = false := by
    intro k hk
    cases hb : ((c.toNat : Int) == (k.toNat : Nat)) with
    | false => rfl
    | true => exact absurd (UInt8.toNat_inj.mp (Int.ofNat.inj (eq_of_beq hb))) hk
  by_cases h82 : c = 82
  · subst h82
    show Calls Tryz.prog 45 #[.int .u8 82] w fun e w' => e = .returned (.tuple #[.string ⟨#[105]⟩, .bool true]) ∧ w = w'
    clear hne
    go_enter Tryz.func45, Tryz.ntmps45
    go_wp2_with fail
    simp [bodyPost, results, Tryz.results45, go_sem]
  by_cases h83 : c = 83
  · subst h83
    show Calls Tryz.prog 45 #[.int .u8 83] w fun e w' => e = .returned (.tuple #[.string ⟨#[115, 115]⟩, .bool true]) ∧ w = w'
    clear hne
    go_enter Tryz.func45, Tryz.ntmps45
    go_wp2_with fail
    simp [bodyPost, results, Tryz.results45, go_sem]
  by_cases h75 : c = 75
  · subst h75
    show Calls Tryz.prog 45 #[.int .u8 75] w fun e w' => e = .returned (.tuple #[.string ⟨#[105, 105]⟩, .bool true]) ∧ w = w'
    clear hne
    go_enter Tryz.func45, Tryz.ntmps45
    go_wp2_with fail
    simp [bodyPost, results, Tryz.results45, go_sem]
  by_cases h90 : c = 90
  · subst h90
    show Calls Tryz.prog 45 #[.int .u8 90] w fun e w' => e = .returned (.tuple #[.string ⟨#[98]⟩, .bool true]) ∧ w = w'
    clear hne
    go_enter Tryz.func45, Tryz.ntmps45
    go_wp2_with fail
    simp [bodyPost, results, Tryz.results45, go_sem]
  by_cases h67 : c = 67
  · subst h67
    show Calls Tryz.prog 45 #[.int .u8 67] w fun e w' => e = .returned (.tuple #[.string ⟨#[115]⟩, .bool true]) ∧ w = w'
    clear hne
    go_enter Tryz.func45, Tryz.ntmps45
    go_wp2_with fail
    simp [bodyPost, results, Tryz.results45, go_sem]
  by_cases h69 : c = 69
  · subst h69
    show Calls Tryz.prog 45 #[.int .u8 69] w fun e w' => e = .returned (.tuple #[.string ⟨#[102]⟩, .bool true]) ∧ w = w'
    clear hne
    go_enter Tryz.func45, Tryz.ntmps45
    go_wp2_with fail
    simp [bodyPost, results, Tryz.results45, go_sem]
  by_cases h78 : c = 78
  · subst h78
    show Calls Tryz.prog 45 #[.int .u8 78] w fun e w' => e = .returned (.tuple #[.string ⟨#[102]⟩, .bool true]) ∧ w = w'
    clear hne
    go_enter Tryz.func45, Tryz.ntmps45
    go_wp2_with fail
    simp [bodyPost, results, Tryz.results45, go_sem]
  by_cases h84 : c = 84
  · subst h84
    show Calls Tryz.prog 45 #[.int .u8 84] w fun e w' => e = .returned (.tuple #[.string ⟨#[109]⟩, .bool true]) ∧ w = w'
    clear hne
    go_enter Tryz.func45, Tryz.ntmps45
    go_wp2_with fail
    simp [bodyPost, results, Tryz.results45, go_sem]
  by_cases h68 : c = 68
  · subst h68
    show Calls Tryz.prog 45 #[.int .u8 68] w fun e w' => e = .returned (.tuple #[.string ⟨#[118]⟩, .bool true]) ∧ w = w'
    clear hne
    go_enter Tryz.func45, Tryz.ntmps45
    go_wp2_with fail
    simp [bodyPost, results, Tryz.results45, go_sem]
  by_cases h73 : c = 73
  · subst h73
    show Calls Tryz.prog 45 #[.int .u8 73] w fun e w' => e = .returned (.tuple #[.string ⟨#[]⟩, .bool true]) ∧ w = w'
    clear hne
    go_enter Tryz.func45, Tryz.ntmps45
    go_wp2_with fail
    simp [bodyPost, results, Tryz.results45, go_sem]
  by_cases h49 : c = 49
  · subst h49
    show Calls Tryz.prog 45 #[.int .u8 49] w fun e w' => e = .returned (.tuple #[.string ⟨#[]⟩, .bool true]) ∧ w = w'
    clear hne
    go_enter Tryz.func45, Tryz.ntmps45
    go_wp2_with fail
    simp [bodyPost, results, Tryz.results45, go_sem]
  by_cases h50 : c = 50
  · subst h50
    show Calls Tryz.prog 45 #[.int .u8 50] w fun e w' => e = .returned (.tuple #[.string ⟨#[]⟩, .bool true]) ∧ w = w'
    clear hne
    go_enter Tryz.func45, Tryz.ntmps45
    go_wp2_with fail
    simp [bodyPost, results, Tryz.results45, go_sem]
  by_cases h51 : c = 51
  · subst h51
    show Calls Tryz.prog 45 #[.int .u8 51] w fun e w' => e = .returned (.tuple #[.string ⟨#[]⟩, .bool true]) ∧ w = w'
    clear hne
    go_enter Tryz.func45, Tryz.ntmps45
    go_wp2_with fail
    simp [bodyPost, results, Tryz.results45, go_sem]
  by_cases h110 : c = 110
  · subst h110
    show Calls Tryz.prog 45 #[.int .u8 110] w fun e w' => e = .returned (.tuple #[.string ⟨#[]⟩, .bool true]) ∧ w = w'
    clear hne
    go_enter Tryz.func45, Tryz.ntmps45
    go_wp2_with fail
    simp [bodyPost, results, Tryz.results45, go_sem]
  by_cases h115 : c = 115
  · subst h115
    show Calls Tryz.prog 45 #[.int .u8 115] w fun e w' => e = .returned (.tuple #[.string ⟨#[]⟩, .bool true]) ∧ w = w'
    clear hne
    go_enter Tryz.func45, Tryz.ntmps45
    go_wp2_with fail
    simp [bodyPost, results, Tryz.results45, go_sem]
  have HE := Lib.hid (show layS c = none by unfold layS; rw [if_neg h82, if_neg h83, if_neg h75, if_neg h90, if_neg h67, if_neg h69, if_neg h78, if_neg h84, if_neg h68, if_neg h73, if_neg h49, if_neg h50, if_neg h51, if_neg h110, if_neg h115])
  rw [HE.out]
  have b82 : ((c.toNat : Int) == 82) = false := hne 82 h82
  have b83 : ((c.toNat : Int) == 83) = false := hne 83 h83
  have b75 : ((c.toNat : Int) == 75) = false := hne 75 h75
  have b90 : ((c.toNat : Int) == 90) = false := hne 90 h90
  have b67 : ((c.toNat : Int) == 67) = false := hne 67 h67
  have b69 : ((c.toNat : Int) == 69) = false := hne 69 h69
  have b78 : ((c.toNat : Int) == 78) = false := hne 78 h78
  have b84 : ((c.toNat : Int) == 84) = false := hne 84 h84
  have b68 : ((c.toNat : Int) == 68) = false := hne 68 h68
  have b73 : ((c.toNat : Int) == 73) = false := hne 73 h73
  have b49 : ((c.toNat : Int) == 49) = false := hne 49 h49
  have b50 : ((c.toNat : Int) == 50) = false := hne 50 h50
  have b51 : ((c.toNat : Int) == 51) = false := hne 51 h51
  have b110 : ((c.toNat : Int) == 110) = false := hne 110 h110
  have b115 : ((c.toNat : Int) == 115) = false := hne 115 h115
  generalize (c.toNat : Int) = x at *
  clear hne HE
  go_enter Tryz.func45, Tryz.ntmps45
  go_wp2_with fail
  simp [bodyPost, results, Tryz.results45, go_sem, layV]

set_option maxRecDepth 100000 in
set_option maxHeartbeats 8000000 in
theorem layC_any (w : World) (c : UInt8) :
    Calls Tryz.prog 46 #[.int .u8 (c.toNat : Nat)] w fun e w' => e = .returned (layV (layC c)) ∧ w = w' := by
  have hne : ∀ k : UInt8, ¬ c = k → ((c.toNat : Int) == (k.toNat : Nat)) = false := by
    intro k hk
    cases hb : ((c.toNat : Int) == (k.toNat : Nat)) with
    | false => rfl
    | true => exact absurd (UInt8.toNat_inj.mp (Int.ofNat.inj (eq_of_beq hb))) hk
  by_cases h0 : c = 0
  · subst h0
    show Calls Tryz.prog 46 #[.int .u8 0] w fun e w' => e = .returned (.tuple #[.string ⟨#[105, 112]⟩, .bool true]) ∧ w = w'
    clear hne
    go_enter Tryz.func46, Tryz.ntmps46
    go_wp2_with fail
    simp [bodyPost, results, Tryz.results46, go_sem]
  by_cases h81 : c = 81
  · subst h81
    show Calls Tryz.prog 46 #[.int .u8 81] w fun e w' => e = .returned (.tuple #[.string ⟨#[115]⟩, .bool true]) ∧ w = w'
    clear hne
    go_enter Tryz.func46, Tryz.ntmps46
    go_wp2_with fail
    simp [bodyPost, results, Tryz.results46, go_sem]
  by_cases h112 : c = 112
  · subst h112
    show Calls Tryz.prog 46 #[.int .u8 112] w fun e w' => e = .returned (.tuple #[.string ⟨#[115]⟩, .bool true]) ∧ w = w'
    clear hne
    go_enter Tryz.func46, Tryz.ntmps46
    go_wp2_with fail
    simp [bodyPost, results, Tryz.results46, go_sem]
  by_cases h88 : c = 88
  · subst h88
    show Calls Tryz.prog 46 #[.int .u8 88] w fun e w' => e = .returned (.tuple #[.string ⟨#[]⟩, .bool true]) ∧ w = w'
    clear hne
    go_enter Tryz.func46, Tryz.ntmps46
    go_wp2_with fail
    simp [bodyPost, results, Tryz.results46, go_sem]
  by_cases h83 : c = 83
  · subst h83
    show Calls Tryz.prog 46 #[.int .u8 83] w fun e w' => e = .returned (.tuple #[.string ⟨#[]⟩, .bool true]) ∧ w = w'
    clear hne
    go_enter Tryz.func46, Tryz.ntmps46
    go_wp2_with fail
    simp [bodyPost, results, Tryz.results46, go_sem]
  by_cases h72 : c = 72
  · subst h72
    show Calls Tryz.prog 46 #[.int .u8 72] w fun e w' => e = .returned (.tuple #[.string ⟨#[]⟩, .bool true]) ∧ w = w'
    clear hne
    go_enter Tryz.func46, Tryz.ntmps46
    go_wp2_with fail
    simp [bodyPost, results, Tryz.results46, go_sem]
  by_cases h80 : c = 80
  · subst h80
    show Calls Tryz.prog 46 #[.int .u8 80] w fun e w' => e = .returned (.tuple #[.string ⟨#[115, 115, 108]⟩, .bool true]) ∧ w = w'
    clear hne
    go_enter Tryz.func46, Tryz.ntmps46
    go_wp2_with fail
    simp [bodyPost, results, Tryz.results46, go_sem]
  by_cases h66 : c = 66
  · subst h66
    show Calls Tryz.prog 46 #[.int .u8 66] w fun e w' => e = .returned (.tuple #[.string ⟨#[115, 115, 99, 118, 99]⟩, .bool true]) ∧ w = w'
    clear hne
    go_enter Tryz.func46, Tryz.ntmps46
    go_wp2_with fail
    simp [bodyPost, results, Tryz.results46, go_sem]
  by_cases h69 : c = 69
  · subst h69
    show Calls Tryz.prog 46 #[.int .u8 69] w fun e w' => e = .returned (.tuple #[.string ⟨#[115, 105]⟩, .bool true]) ∧ w = w'
    clear hne
    go_enter Tryz.func46, Tryz.ntmps46
    go_wp2_with fail
    simp [bodyPost, results, Tryz.results46, go_sem]
  by_cases h68 : c = 68
  · subst h68
    show Calls Tryz.prog 46 #[.int .u8 68] w fun e w' => e = .returned (.tuple #[.string ⟨#[98, 115]⟩, .bool true]) ∧ w = w'
    clear hne
    go_enter Tryz.func46, Tryz.ntmps46
    go_wp2_with fail
    simp [bodyPost, results, Tryz.results46, go_sem]
  by_cases h67 : c = 67
  · subst h67
    show Calls Tryz.prog 46 #[.int .u8 67] w fun e w' => e = .returned (.tuple #[.string ⟨#[98, 115]⟩, .bool true]) ∧ w = w'
    clear hne
    go_enter Tryz.func46, Tryz.ntmps46
    go_wp2_with fail
    simp [bodyPost, results, Tryz.results46, go_sem]
  have HE := Lib.hid (show layC c = none by unfold layC; rw [if_neg h0, if_neg h81, if_neg h112, if_neg h88, if_neg h83, if_neg h72, if_neg h80, if_neg h66, if_neg h69, if_neg h68, if_neg h67])
  rw [HE.out]
  have b0 : ((c.toNat : Int) == 0) = false := hne 0 h0
  have b81 : ((c.toNat : Int) == 81) = false := hne 81 h81
  have b112 : ((c.toNat : Int) == 112) = false := hne 112 h112
  have b88 : ((c.toNat : Int) == 88) = false := hne 88 h88
  have b83 : ((c.toNat : Int) == 83) = false := hne 83 h83
  have b72 : ((c.toNat : Int) == 72) = false := hne 72 h72
  have b80 : ((c.toNat : Int) == 80) = false := hne 80 h80
  have b66 : ((c.toNat : Int) == 66) = false := hne 66 h66
  have b69 : ((c.toNat : Int) == 69) = false := hne 69 h69
  have b68 : ((c.toNat : Int) == 68) = false := hne 68 h68
  have b67 : ((c.toNat : Int) == 67) = false := hne 67 h67
  generalize (c.toNat : Int) = x at *
  clear hne HE
  go_enter Tryz.func46, Tryz.ntmps46
  go_wp2_with fail
  simp [bodyPost, results, Tryz.results46, go_sem, layV]

theorem lay_any (w : World) (back : Bool) (c : UInt8) :
    Calls Tryz.prog 34 #[.bool back, .int .u8 (c.toNat : Nat)] w fun e w' => e = .returned (layV (lay back c)) ∧ w = w' := by
  cases back with
  | true =>
    go_enter Tryz.func34, Tryz.ntmps34
    go_wp2_with fail
    refine (layS_any _ c).mono ?_; rintro e w1 ⟨rfl, rfl⟩
    unfold layV
    go_wp2_with fail
    simp [bodyPost, results, Tryz.results34, go_sem]
    rfl
  | false =>
    go_enter Tryz.func34, Tryz.ntmps34
    go_wp2_with fail
    refine (layC_any _ c).mono ?_; rintro e w1 ⟨rfl, rfl⟩
    unfold layV
    go_wp2_with fail
    simp [bodyPost, results, Tryz.results34, go_sem]
    rfl

end Go.Proofs.YtmofnkinclckoaaGreatDoor
