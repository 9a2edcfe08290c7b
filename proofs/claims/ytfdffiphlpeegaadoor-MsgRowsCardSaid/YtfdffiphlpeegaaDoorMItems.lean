/- The fields of a message, written: what is of one number or text, and what is counted. -/
import Derived.Test.YtfdffiphlpeegaaDoorMText
namespace Go.Proofs.YtfdffiphlpeegaaDoor
open Go.RowKit Go.Lib Go.WideShapes

theorem room_B (s : WS) : s.B.length ≤ room s := by unfold room; omega

set_option maxHeartbeats 4000000 in
theorem short_any (w0 w : World) (s : WS) (hr : room s ≤ 900000) (h : IsW w0 w s) :
    Calls Tryd.prog 59 #[.pointer (some ⟨w0.heap.size, 0, none⟩)] w (WOut w0 (wShort s)) := by
  have HN := Lib.hid (number_any w0 w s (-32768) 32767 2 (by omega) (by omega) (by omega) (Nat.le_trans (room_B s) hr) h)
  clear h hr
  unfold wShort
  generalize wNumber (-32768) 32767 2 s = r at HN ⊢
  go_enter Tryd.func59, Tryd.ntmps59
  go_wp2_with fail
  refine HN.out.mono ?_; rintro e w1 (⟨n, s1, rfl, rfl, hW⟩ | ⟨rfl, rfl, hB⟩)
  · have HW := Lib.hid hW
    clear hW
    go_wp2_with fail
    go_end0
    exact .inl ⟨_, rfl, rfl, HW.out⟩
  · go_wp2_with fail
    exact ⟨rfl, .inr ⟨rfl, rfl, hB⟩⟩
set_option maxHeartbeats 4000000 in
theorem long_any (w0 w : World) (s : WS) (hr : room s ≤ 900000) (h : IsW w0 w s) :
    Calls Tryd.prog 55 #[.pointer (some ⟨w0.heap.size, 0, none⟩)] w (WOut w0 (wLong s)) := by
  have HN := Lib.hid (number_any w0 w s (-2147483648) 2147483647 4 (by omega) (by omega) (by omega) (Nat.le_trans (room_B s) hr) h)
  clear h hr
  unfold wLong
  generalize wNumber (-2147483648) 2147483647 4 s = r at HN ⊢
  go_enter Tryd.func55, Tryd.ntmps55
  go_wp2_with fail
  refine HN.out.mono ?_; rintro e w1 (⟨n, s1, rfl, rfl, hW⟩ | ⟨rfl, rfl, hB⟩)
  · have HW := Lib.hid hW
    clear hW
    go_wp2_with fail
    go_end0
    exact .inl ⟨_, rfl, rfl, HW.out⟩
  · go_wp2_with fail
    exact ⟨rfl, .inr ⟨rfl, rfl, hB⟩⟩

set_option maxRecDepth 100000 in
set_option maxHeartbeats 4000000 in
theorem name_any (w0 w : World) (s : WS) (hr : room s ≤ 800000) (h : IsW w0 w s) :
    Calls Tryd.prog 61 #[.pointer (some ⟨w0.heap.size, 0, none⟩)] w (WOut w0 (wName s)) := by
  have HN := Lib.hid (text_any w0 w s (by omega) h)
  clear h
  unfold wName
  generalize hx : wText s = r at HN ⊢
  have HX := Lib.hid hx
  clear hx
  go_enter Tryd.func61, Tryd.ntmps61
  go_wp2_with fail
  refine HN.out.mono ?_; rintro e w1 (⟨s1, rfl, rfl, hW⟩ | ⟨rfl, rfl, hB⟩)
  · have HW := Lib.hid hW
    have hs1 : s1.B.length ≤ 800000 := by have := room_text HX.out; have := room_B s1; omega
    clear hW HX HN
    obtain ⟨T, N, B⟩ := s1
    have hs1 : B.length ≤ 800000 := hs1
    go_wp2_with fail
    go_loopg [4] 18 (fun g i wr => ∃ j : Nat, i = .int .i64 j ∧ j ≤ 18 ∧ g = 18 - j ∧ IsW w0 wr ⟨T, N, B ++ List.replicate j 0⟩)
    case atStart => exact ⟨0, rfl, by omega, rfl, by rw [List.replicate_zero, List.append_nil]; exact HW.out⟩
    case round =>
      obtain ⟨j, rfl, hj, hg, hWj⟩ := hrel
      have HWJ := Lib.hid hWj; have HG := Lib.hid hg
      clear hWj hg
      by_cases hlt : j < 18
      · have hlt' : (j : Int) < 18 := by omega
        go_wp2_with fail
        refine (zero_any w0 wr ⟨T, N, B ++ List.replicate j 0⟩ (by show (B ++ List.replicate j 0).length ≤ _; rw [List.length_append, List.length_replicate]; omega) HWJ.out).mono ?_; rintro e w2 (⟨s', hs', rfl, hW2⟩ | ⟨hs', _⟩)
        · obtain rfl := Option.some.inj hs'
          have HW2 := Lib.hid (show IsW w0 w2 ⟨T, N, B ++ List.replicate (j + 1) 0⟩ by rw [List.replicate_succ', ← List.append_assoc]; exact hW2)
          clear hW2 hs'
          go_wp2_with fail
          go_roundg (18 - (j + 1))
          case measure => have := HG.out; omega
          case rel => exact ⟨j + 1, by go_num, by omega, rfl, HW2.out⟩
        · cases hs'
      · obtain rfl : j = 18 := by omega
        go_wp2_with fail
        go_end0
        exact .inl ⟨_, rfl, rfl, HWJ.out⟩
  · go_wp2_with fail
    exact ⟨rfl, .inr ⟨rfl, rfl, hB⟩⟩

set_option maxRecDepth 100000 in
set_option maxHeartbeats 8000000 in
theorem value_any (w0 w : World) (s : WS) (hr : room s ≤ 800000) (h : IsW w0 w s) :
    Calls Tryd.prog 60 #[.pointer (some ⟨w0.heap.size, 0, none⟩)] w (WOut w0 (wValue s)) := by
  have HN := Lib.hid (number_any w0 w s (-1) 10000 4 (by omega) (by omega) (by omega) (Nat.le_trans (room_B s) (by omega)) h)
  clear h
  obtain ⟨R, hR⟩ : ∃ R, R = wValue s := ⟨_, rfl⟩
  rw [← hR]
  unfold wValue at hR
  generalize hx : wNumber (-1) 10000 4 s = r at HN hR
  have HX := Lib.hid hx; have HR := Lib.hid hR
  clear hx hR
  go_enter Tryd.func60, Tryd.ntmps60
  go_wp2_with fail
  refine HN.out.mono ?_; rintro e w1 (⟨n, s1, rfl, rfl, hW⟩ | ⟨rfl, rfl, hB⟩)
  · have HW := Lib.hid hW
    have hs1 : room s1 ≤ 800000 := Nat.le_trans (room_number HX.out (by omega)).1 hr
    have HR := Lib.hid (show R = if n < 0 then some s1 else wRaw n s1 from HR.out)
    clear hW HX HN
    by_cases hn : n < 0
    · have HR := Lib.hid (show R = some s1 by rw [HR.out, if_pos hn])
      go_wp2_with fail
      go_end0
      exact .inl ⟨_, HR.out, rfl, HW.out⟩
    · have HR := Lib.hid (show R = wRaw n s1 by rw [HR.out, if_neg hn])
      have hn' : 0 ≤ n := by omega
      have HNT := Lib.hid (nexttext_any w0 w1 s1 HW.out)
      obtain ⟨T, N, B⟩ := s1
      clear hn HW
      cases T with
      | nil =>
        go_wp2_with fail
        refine HNT.out.mono ?_; rintro e w2 (⟨t, ts, hT, _⟩ | ⟨_, rfl, hB⟩)
        · cases hT
        · go_wp2_with fail
          exact ⟨rfl, .inr ⟨HR.out, rfl, hB⟩⟩
      | cons t ts =>
        have hsz := text_size (s := ⟨t :: ts, N, B⟩) (t := t) (ts := ts) rfl
        have hBT : B.length + t.length ≤ 800000 := by have hsz : B.length + t.length + 19 ≤ room ⟨t :: ts, N, B⟩ := hsz; omega
        have HR := Lib.hid (show R = if (t.length : Int) = n then some ⟨ts, N, B ++ t⟩ else none from HR.out)
        clear hsz hs1
        go_wp2_with fail
        refine HNT.out.mono ?_; rintro e w2 (⟨t', ts', hT, rfl, hW⟩ | ⟨hT, _⟩)
        · obtain ⟨rfl, rfl⟩ := List.cons.inj hT
          obtain ⟨tv, nv, bv, hW⟩ := hW
          have HW := Lib.hid hW
          clear hT hW HNT
          by_cases hl : (t.length : Int) = n
          · have HR := Lib.hid (show R = some ⟨ts, N, B ++ t⟩ by rw [HR.out, if_pos hl])
            subst hl
            obtain ⟨a, c, rfl⟩ := HW.out.room_blocks
            have c2 := HW.out.c2
            have f2 := HW.out.f2
            obtain ⟨a', c', w4, hrun, e2, g2, hz1, hP⟩ := put_text ⟨t.toArray⟩ (by show B.length ≤ _; omega) (by rw [bsize]; omega) HW.out
            have HP := Lib.hid hP
            have HRUN := Lib.hid hrun
            have hbs := bsize t
            have HBS := Lib.hid hbs
            clear hP hrun hbs
            go_wp2_with fail
            refine (demand_ok _).mono ?_; rintro e w3 ⟨rfl, rfl⟩
            go_wp2_with (at_builtin; refine wpList_append_eq rfl (.tmp 19) (.tmp 20) 69 9 rfl _ _ rfl rfl _ _ HRUN.out ?_)
            clear c2 f2
            go_wp2_with fail
            go_end0
            exact .inl ⟨_, HR.out, rfl, _, _, _, HP.out⟩
          · have HR := Lib.hid (show R = none by rw [HR.out, if_neg hl])
            have hl2 : (((t.length : Nat) : Int) == n) = false := by rw [beq_eq_false_iff_ne]; exact hl
            clear hl
            go_wp2_with fail
            refine (demand_no _).mono ?_; rintro e w3 ⟨rfl, rfl⟩
            go_wp2_with fail
            exact ⟨rfl, .inr ⟨HR.out, rfl, HW.out.below⟩⟩
        · cases hT
  · go_wp2_with fail
    exact ⟨rfl, .inr ⟨HR.out, rfl, hB⟩⟩
end Go.Proofs.YtfdffiphlpeegaaDoor
