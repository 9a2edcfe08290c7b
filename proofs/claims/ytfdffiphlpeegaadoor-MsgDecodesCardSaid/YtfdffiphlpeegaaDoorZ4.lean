/- Contracts and mathematics: MRows, MPairs, MField. -/
import Derived.Test.YtfdffiphlpeegaaDoorZ3
namespace Go.Proofs.YtfdffiphlpeegaaDoor
open Go.RowKit Go.Lib Go.WideShapes

theorem rep_add (f : WS → Option WS) : ∀ (a b : Nat) (s : WS), rep (a + b) f s = (rep a f s).bind (rep b f) := by
  intro a
  induction a with
  | zero => intro b s; rw [Nat.zero_add]; rfl
  | succ a ih =>
    intro b s
    rw [Nat.succ_add, rep, rep]
    cases f s with
    | none => rfl
    | some s1 => exact ih b s1
theorem rep_fail {f : WS → Option WS} {j n : Nat} {s s' : WS} (h : rep j f s = some s') (hf : f s' = none) (hj : j < n) : rep n f s = none := by
  rw [show n = j + ((n - j - 1) + 1) by omega, rep_add, h]
  show rep ((n - j - 1) + 1) f s' = none
  rw [rep, hf]; rfl
theorem rep_next {f : WS → Option WS} {j : Nat} {s s' s2 : WS} (h : rep j f s = some s') (hf : f s' = some s2) : rep (j + 1) f s = some s2 := by
  rw [rep_succ, h]; exact hf

set_option maxRecDepth 100000 in
set_option maxHeartbeats 8000000 in
theorem counted_short (w0 w : World) (s : WS) (f : WS → Option WS) (hf : ∀ W s, room s ≤ 800000 → IsW w0 W s → Calls Tryd.prog 59 #[.pointer (some ⟨w0.heap.size, 0, none⟩)] W (WOut w0 (f s))) (hfr : ∀ s s', f s = some s' → room s' ≤ room s) (hr : room s ≤ 800000) (h : IsW w0 w s) :
    Calls Tryd.prog 58 #[.pointer (some ⟨w0.heap.size, 0, none⟩), .func (.func 59) #[.pointer (some ⟨w0.heap.size, 0, none⟩)] #[]] w (WOut w0 (wCounted f s)) := by
  have HN := Lib.hid (number_any w0 w s 0 100 2 (by omega) (by omega) (by omega) (Nat.le_trans (room_B s) (by omega)) h)
  have HF := Lib.hid hf; have HFR := Lib.hid hfr
  clear h hf hfr
  obtain ⟨R, hR⟩ : ∃ R, R = wCounted f s := ⟨_, rfl⟩
  rw [← hR]
  unfold wCounted at hR
  generalize hx : wNumber 0 100 2 s = r at HN hR
  have HX := Lib.hid hx; have HR := Lib.hid hR
  clear hx hR
  go_enter Tryd.func58, Tryd.ntmps58
  go_wp2_with fail
  refine HN.out.mono ?_; rintro e w1 (⟨n, s1, rfl, rfl, hW⟩ | ⟨rfl, rfl, hB⟩)
  · have HW := Lib.hid hW
    have hs1 : room s1 ≤ 800000 := Nat.le_trans (room_number HX.out (by omega)).1 hr
    have hn : 0 ≤ n ∧ n ≤ 100 := number_range HX.out
    have HR := Lib.hid (show R = rep n.toNat f s1 from HR.out)
    obtain ⟨hn0, hn1⟩ := hn
    obtain ⟨m, rfl⟩ := Int.eq_ofNat_of_zero_le hn0
    rw [Int.toNat_natCast] at HR
    clear hW HX HN hn0
    go_wp2_with fail
    go_loopg [8] m (fun g i wr => ∃ (j : Nat) (s2 : WS), i = .int .i64 j ∧ j ≤ m ∧ g = m - j ∧ rep j f s1 = some s2 ∧ room s2 ≤ 800000 ∧ IsW w0 wr s2)
    case atStart => exact ⟨0, s1, rfl, Nat.zero_le _, rfl, rfl, hs1, HW.out⟩
    case round =>
      obtain ⟨j, s2, rfl, hj, hg, hrep, hr2, hW2⟩ := hrel
      have HREP := Lib.hid hrep; have HW2 := Lib.hid hW2; have HG := Lib.hid hg
      clear hrep hW2 hg
      by_cases hlt : j < m
      · have hlt' : (j : Int) < m := by omega
        go_wp2_with fail
        refine (HF.out wr s2 hr2 HW2.out).mono ?_; rintro e w2 (⟨s3, hs3, rfl, hW3⟩ | ⟨hs3, rfl, hB⟩)
        · have HW3 := Lib.hid hW3
          have HN3 := Lib.hid (rep_next HREP.out hs3)
          have hr3 : room s3 ≤ 800000 := Nat.le_trans (HFR.out _ _ hs3) hr2
          clear hW3 hs3
          go_wp2_with fail
          go_roundg (m - (j + 1))
          case measure => have := HG.out; omega
          case rel => exact ⟨j + 1, s3, by go_num, by omega, rfl, HN3.out, hr3, HW3.out⟩
        · have HN3 := Lib.hid (rep_fail HREP.out hs3 hlt)
          clear hs3
          go_wp2_with fail
          exact ⟨rfl, .inr ⟨HR.out.trans HN3.out, rfl, hB⟩⟩
      · obtain rfl : j = m := by omega
        go_wp2_with fail
        go_end0
        exact .inl ⟨s2, HR.out.trans HREP.out, rfl, HW2.out⟩
  · go_wp2_with fail
    exact ⟨rfl, .inr ⟨HR.out, rfl, hB⟩⟩

set_option maxRecDepth 100000 in
set_option maxHeartbeats 8000000 in
theorem counted_long (w0 w : World) (s : WS) (f : WS → Option WS) (hf : ∀ W s, room s ≤ 800000 → IsW w0 W s → Calls Tryd.prog 55 #[.pointer (some ⟨w0.heap.size, 0, none⟩)] W (WOut w0 (f s))) (hfr : ∀ s s', f s = some s' → room s' ≤ room s) (hr : room s ≤ 800000) (h : IsW w0 w s) :
    Calls Tryd.prog 58 #[.pointer (some ⟨w0.heap.size, 0, none⟩), .func (.func 55) #[.pointer (some ⟨w0.heap.size, 0, none⟩)] #[]] w (WOut w0 (wCounted f s)) := by
  have HN := Lib.hid (number_any w0 w s 0 100 2 (by omega) (by omega) (by omega) (Nat.le_trans (room_B s) (by omega)) h)
  have HF := Lib.hid hf; have HFR := Lib.hid hfr
  clear h hf hfr
  obtain ⟨R, hR⟩ : ∃ R, R = wCounted f s := ⟨_, rfl⟩
  rw [← hR]
  unfold wCounted at hR
  generalize hx : wNumber 0 100 2 s = r at HN hR
  have HX := Lib.hid hx; have HR := Lib.hid hR
  clear hx hR
  go_enter Tryd.func58, Tryd.ntmps58
  go_wp2_with fail
  refine HN.out.mono ?_; rintro e w1 (⟨n, s1, rfl, rfl, hW⟩ | ⟨rfl, rfl, hB⟩)
  · have HW := Lib.hid hW
    have hs1 : room s1 ≤ 800000 := Nat.le_trans (room_number HX.out (by omega)).1 hr
    have hn : 0 ≤ n ∧ n ≤ 100 := number_range HX.out
    have HR := Lib.hid (show R = rep n.toNat f s1 from HR.out)
    obtain ⟨hn0, hn1⟩ := hn
    obtain ⟨m, rfl⟩ := Int.eq_ofNat_of_zero_le hn0
    rw [Int.toNat_natCast] at HR
    clear hW HX HN hn0
    go_wp2_with fail
    go_loopg [8] m (fun g i wr => ∃ (j : Nat) (s2 : WS), i = .int .i64 j ∧ j ≤ m ∧ g = m - j ∧ rep j f s1 = some s2 ∧ room s2 ≤ 800000 ∧ IsW w0 wr s2)
    case atStart => exact ⟨0, s1, rfl, Nat.zero_le _, rfl, rfl, hs1, HW.out⟩
    case round =>
      obtain ⟨j, s2, rfl, hj, hg, hrep, hr2, hW2⟩ := hrel
      have HREP := Lib.hid hrep; have HW2 := Lib.hid hW2; have HG := Lib.hid hg
      clear hrep hW2 hg
      by_cases hlt : j < m
      · have hlt' : (j : Int) < m := by omega
        go_wp2_with fail
        refine (HF.out wr s2 hr2 HW2.out).mono ?_; rintro e w2 (⟨s3, hs3, rfl, hW3⟩ | ⟨hs3, rfl, hB⟩)
        · have HW3 := Lib.hid hW3
          have HN3 := Lib.hid (rep_next HREP.out hs3)
          have hr3 : room s3 ≤ 800000 := Nat.le_trans (HFR.out _ _ hs3) hr2
          clear hW3 hs3
          go_wp2_with fail
          go_roundg (m - (j + 1))
          case measure => have := HG.out; omega
          case rel => exact ⟨j + 1, s3, by go_num, by omega, rfl, HN3.out, hr3, HW3.out⟩
        · have HN3 := Lib.hid (rep_fail HREP.out hs3 hlt)
          clear hs3
          go_wp2_with fail
          exact ⟨rfl, .inr ⟨HR.out.trans HN3.out, rfl, hB⟩⟩
      · obtain rfl : j = m := by omega
        go_wp2_with fail
        go_end0
        exact .inl ⟨s2, HR.out.trans HREP.out, rfl, HW2.out⟩
  · go_wp2_with fail
    exact ⟨rfl, .inr ⟨HR.out, rfl, hB⟩⟩

set_option maxRecDepth 100000 in
set_option maxHeartbeats 8000000 in
theorem counted_value (w0 w : World) (s : WS) (f : WS → Option WS) (hf : ∀ W s, room s ≤ 800000 → IsW w0 W s → Calls Tryd.prog 60 #[.pointer (some ⟨w0.heap.size, 0, none⟩)] W (WOut w0 (f s))) (hfr : ∀ s s', f s = some s' → room s' ≤ room s) (hr : room s ≤ 800000) (h : IsW w0 w s) :
    Calls Tryd.prog 58 #[.pointer (some ⟨w0.heap.size, 0, none⟩), .func (.func 60) #[.pointer (some ⟨w0.heap.size, 0, none⟩)] #[]] w (WOut w0 (wCounted f s)) := by
  have HN := Lib.hid (number_any w0 w s 0 100 2 (by omega) (by omega) (by omega) (Nat.le_trans (room_B s) (by omega)) h)
  have HF := Lib.hid hf; have HFR := Lib.hid hfr
  clear h hf hfr
  obtain ⟨R, hR⟩ : ∃ R, R = wCounted f s := ⟨_, rfl⟩
  rw [← hR]
  unfold wCounted at hR
  generalize hx : wNumber 0 100 2 s = r at HN hR
  have HX := Lib.hid hx; have HR := Lib.hid hR
  clear hx hR
  go_enter Tryd.func58, Tryd.ntmps58
  go_wp2_with fail
  refine HN.out.mono ?_; rintro e w1 (⟨n, s1, rfl, rfl, hW⟩ | ⟨rfl, rfl, hB⟩)
  · have HW := Lib.hid hW
    have hs1 : room s1 ≤ 800000 := Nat.le_trans (room_number HX.out (by omega)).1 hr
    have hn : 0 ≤ n ∧ n ≤ 100 := number_range HX.out
    have HR := Lib.hid (show R = rep n.toNat f s1 from HR.out)
    obtain ⟨hn0, hn1⟩ := hn
    obtain ⟨m, rfl⟩ := Int.eq_ofNat_of_zero_le hn0
    rw [Int.toNat_natCast] at HR
    clear hW HX HN hn0
    go_wp2_with fail
    go_loopg [8] m (fun g i wr => ∃ (j : Nat) (s2 : WS), i = .int .i64 j ∧ j ≤ m ∧ g = m - j ∧ rep j f s1 = some s2 ∧ room s2 ≤ 800000 ∧ IsW w0 wr s2)
    case atStart => exact ⟨0, s1, rfl, Nat.zero_le _, rfl, rfl, hs1, HW.out⟩
    case round =>
      obtain ⟨j, s2, rfl, hj, hg, hrep, hr2, hW2⟩ := hrel
      have HREP := Lib.hid hrep; have HW2 := Lib.hid hW2; have HG := Lib.hid hg
      clear hrep hW2 hg
      by_cases hlt : j < m
      · have hlt' : (j : Int) < m := by omega
        go_wp2_with fail
        refine (HF.out wr s2 hr2 HW2.out).mono ?_; rintro e w2 (⟨s3, hs3, rfl, hW3⟩ | ⟨hs3, rfl, hB⟩)
        · have HW3 := Lib.hid hW3
          have HN3 := Lib.hid (rep_next HREP.out hs3)
          have hr3 : room s3 ≤ 800000 := Nat.le_trans (HFR.out _ _ hs3) hr2
          clear hW3 hs3
          go_wp2_with fail
          go_roundg (m - (j + 1))
          case measure => have := HG.out; omega
          case rel => exact ⟨j + 1, s3, by go_num, by omega, rfl, HN3.out, hr3, HW3.out⟩
        · have HN3 := Lib.hid (rep_fail HREP.out hs3 hlt)
          clear hs3
          go_wp2_with fail
          exact ⟨rfl, .inr ⟨HR.out.trans HN3.out, rfl, hB⟩⟩
      · obtain rfl : j = m := by omega
        go_wp2_with fail
        go_end0
        exact .inl ⟨s2, HR.out.trans HREP.out, rfl, HW2.out⟩
  · go_wp2_with fail
    exact ⟨rfl, .inr ⟨HR.out, rfl, hB⟩⟩

set_option maxRecDepth 100000 in
set_option maxHeartbeats 8000000 in
theorem counted_name (w0 w : World) (s : WS) (f : WS → Option WS) (hf : ∀ W s, room s ≤ 800000 → IsW w0 W s → Calls Tryd.prog 61 #[.pointer (some ⟨w0.heap.size, 0, none⟩)] W (WOut w0 (f s))) (hfr : ∀ s s', f s = some s' → room s' ≤ room s) (hr : room s ≤ 800000) (h : IsW w0 w s) :
    Calls Tryd.prog 58 #[.pointer (some ⟨w0.heap.size, 0, none⟩), .func (.func 61) #[.pointer (some ⟨w0.heap.size, 0, none⟩)] #[]] w (WOut w0 (wCounted f s)) := by
  have HN := Lib.hid (number_any w0 w s 0 100 2 (by omega) (by omega) (by omega) (Nat.le_trans (room_B s) (by omega)) h)
  have HF := Lib.hid hf; have HFR := Lib.hid hfr
  clear h hf hfr
  obtain ⟨R, hR⟩ : ∃ R, R = wCounted f s := ⟨_, rfl⟩
  rw [← hR]
  unfold wCounted at hR
  generalize hx : wNumber 0 100 2 s = r at HN hR
  have HX := Lib.hid hx; have HR := Lib.hid hR
  clear hx hR
  go_enter Tryd.func58, Tryd.ntmps58
  go_wp2_with fail
  refine HN.out.mono ?_; rintro e w1 (⟨n, s1, rfl, rfl, hW⟩ | ⟨rfl, rfl, hB⟩)
  · have HW := Lib.hid hW
    have hs1 : room s1 ≤ 800000 := Nat.le_trans (room_number HX.out (by omega)).1 hr
    have hn : 0 ≤ n ∧ n ≤ 100 := number_range HX.out
    have HR := Lib.hid (show R = rep n.toNat f s1 from HR.out)
    obtain ⟨hn0, hn1⟩ := hn
    obtain ⟨m, rfl⟩ := Int.eq_ofNat_of_zero_le hn0
    rw [Int.toNat_natCast] at HR
    clear hW HX HN hn0
    go_wp2_with fail
    go_loopg [8] m (fun g i wr => ∃ (j : Nat) (s2 : WS), i = .int .i64 j ∧ j ≤ m ∧ g = m - j ∧ rep j f s1 = some s2 ∧ room s2 ≤ 800000 ∧ IsW w0 wr s2)
    case atStart => exact ⟨0, s1, rfl, Nat.zero_le _, rfl, rfl, hs1, HW.out⟩
    case round =>
      obtain ⟨j, s2, rfl, hj, hg, hrep, hr2, hW2⟩ := hrel
      have HREP := Lib.hid hrep; have HW2 := Lib.hid hW2; have HG := Lib.hid hg
      clear hrep hW2 hg
      by_cases hlt : j < m
      · have hlt' : (j : Int) < m := by omega
        go_wp2_with fail
        refine (HF.out wr s2 hr2 HW2.out).mono ?_; rintro e w2 (⟨s3, hs3, rfl, hW3⟩ | ⟨hs3, rfl, hB⟩)
        · have HW3 := Lib.hid hW3
          have HN3 := Lib.hid (rep_next HREP.out hs3)
          have hr3 : room s3 ≤ 800000 := Nat.le_trans (HFR.out _ _ hs3) hr2
          clear hW3 hs3
          go_wp2_with fail
          go_roundg (m - (j + 1))
          case measure => have := HG.out; omega
          case rel => exact ⟨j + 1, s3, by go_num, by omega, rfl, HN3.out, hr3, HW3.out⟩
        · have HN3 := Lib.hid (rep_fail HREP.out hs3 hlt)
          clear hs3
          go_wp2_with fail
          exact ⟨rfl, .inr ⟨HR.out.trans HN3.out, rfl, hB⟩⟩
      · obtain rfl : j = m := by omega
        go_wp2_with fail
        go_end0
        exact .inl ⟨s2, HR.out.trans HREP.out, rfl, HW2.out⟩
  · go_wp2_with fail
    exact ⟨rfl, .inr ⟨HR.out, rfl, hB⟩⟩

end Go.Proofs.YtfdffiphlpeegaaDoor

namespace Go.Proofs.YtfdffiphlpeegaaDoor
open Go.RowKit Go.Lib Go.WideShapes

theorem pair_room {s s' : WS} (h : wPair s = some s') : room s' ≤ room s ∧ s'.T = s.T.drop 1 := by
  unfold wPair at h
  cases hT : s.T with
  | nil => rw [hT] at h; cases h
  | cons t ts =>
    rw [hT] at h
    simp only at h
    split at h
    · cases h
    · refine ⟨by have := room_text h; omega, ?_⟩
      unfold wText at h
      rw [hT] at h
      simp only at h
      split at h
      · cases h
      · rw [← Option.some.inj h]; rfl
theorem text_drop {s s' : WS} (h : wText s = some s') : s'.T = s.T.drop 1 := by
  unfold wText at h
  cases hT : s.T with
  | nil => rw [hT] at h; cases h
  | cons t ts =>
    rw [hT] at h
    simp only at h
    split at h
    · cases h
    · rw [← Option.some.inj h]; rfl
theorem item_room {s s' : WS} (h : wItem s = some s') : room s' ≤ room s := by
  unfold wItem at h
  cases hN : wNumber 1 255 1 s with
  | none => rw [hN] at h; cases h
  | some p =>
    obtain ⟨n, s1⟩ := p
    rw [hN] at h
    have h : wText s1 = some s' := h
    have h1 := room_text h
    have h2 := (room_number hN (by omega)).1
    omega

set_option maxRecDepth 100000 in
set_option maxHeartbeats 8000000 in
theorem pairs_any (w0 w : World) (s : WS) (hr : room s ≤ 800000) (h : IsW w0 w s) :
    Calls Tryd.prog 56 #[.pointer (some ⟨w0.heap.size, 0, none⟩)] w (WOut w0 (wPairs s)) := by
  have hh := h
  obtain ⟨tv, nv, bv, hW⟩ := hh
  obtain ⟨a, n, c, rfl, hl, _, hc9, _⟩ := hW.texts
  have c0 := hW.c0
  have HN := Lib.hid (nextnum_any w0 w s 0 n h)
  obtain ⟨R, hR⟩ : ∃ R, R = wPairs s := ⟨_, rfl⟩
  rw [← hR]
  unfold wPairs at hR
  rw [hl] at hR
  generalize hx : wNum 0 n s = r at HN hR
  have HX := Lib.hid hx; have HR := Lib.hid hR; have HL := Lib.hid hl
  clear hx hR h hW hl
  go_enter Tryd.func56, Tryd.ntmps56
  go_wp2_with fail
  refine HN.out.mono ?_; rintro e w1 (⟨k, s1, rfl, rfl, hW⟩ | ⟨rfl, rfl, hB⟩)
  · have HW := Lib.hid hW
    have hs1 : room s1 ≤ 800000 := by have := (room_num HX.out).2.2; omega
    obtain ⟨hk0, hk1⟩ := num_range HX.out
    have HT1 := Lib.hid (show s1.T.length = n by rw [(room_num HX.out).2.1]; exact HL.out)
    have HR := Lib.hid (show R = if k % 2 = 0 then (rep k.toNat wPair s1).map wZero else none from HR.out)
    obtain ⟨m, rfl⟩ := Int.eq_ofNat_of_zero_le hk0
    rw [Int.toNat_natCast] at HR
    have hmn : m ≤ n := by omega
    clear hW HX HN hk0 c0
    by_cases h2 : (m : Int) % 2 = 0
    · have HR := Lib.hid (show R = (rep m wPair s1).map wZero by rw [HR.out, if_pos h2])
      have h2b : ((m : Int) % 2 == 0) = true := by rw [beq_iff_eq]; exact h2
      clear h2
      go_wp2_with fail
      refine (demand_ok _).mono ?_; rintro e w2 ⟨rfl, rfl⟩
      clear h2b
      go_wp2_with fail
      go_loopg [15] m (fun g i wr => ∃ (j : Nat) (s2 : WS), i = .int .i64 j ∧ j ≤ m ∧ g = m - j ∧ rep j wPair s1 = some s2 ∧ s2.T.length = n - j ∧ room s2 ≤ 800000 ∧ IsW w0 wr s2)
      case atStart => exact ⟨0, s1, rfl, Nat.zero_le _, rfl, rfl, HT1.out, hs1, HW.out⟩
      case round =>
        obtain ⟨j, s2, rfl, hj, hg, hrep, htl, hr2, hW2⟩ := hrel
        have HREP := Lib.hid hrep; have HW2 := Lib.hid hW2; have HG := Lib.hid hg; have HTL := Lib.hid htl
        clear hrep hW2 hg htl
        by_cases hlt : j < m
        · have hlt' : (j : Int) < m := by omega
          obtain ⟨tv, nv, bv, hWA⟩ := HW2.out
          obtain ⟨a2, n2, c2, rfl, hl2, hn2, hc2, _⟩ := hWA.texts
          have hd0 := hWA.c0
          have HTX := Lib.hid hWA.texts
          have HBL := Lib.hid hWA.below
          have HTE := Lib.hid (text_any w0 wr s2 (by omega) HW2.out)
          obtain ⟨T, N, B⟩ := s2
          clear hWA
          cases T with
          | nil => exfalso; have := HTL.out; rw [show (WS.mk [] N B).T.length = 0 from rfl] at this; omega
          | cons t ts =>
            obtain ⟨g, off, rfl, hgl, hcell, hp1, _⟩ := HTX.out.tail
            have d0 := (HBL.out.cell (p := ⟨g, off, none⟩) hgl).trans hcell
            have hp1' : (1 : Int) ≤ n2 := by omega
            have hp2' : 0 < n2 := by omega
            clear hcell
            by_cases ht : t = []
            · subst ht
              have HN3 := Lib.hid (rep_fail (n := m) HREP.out (show wPair ⟨[] :: ts, N, B⟩ = none from rfl) hlt)
              go_wp2_with fail
              refine (demand_no _).mono ?_; rintro e w2 ⟨rfl, rfl⟩
              go_wp2_with fail
              exact ⟨rfl, .inr ⟨HR.out.trans (by rw [HN3.out]; rfl), rfl, HBL.out⟩⟩
            · have HPE := Lib.hid (show wPair ⟨t :: ts, N, B⟩ = wText ⟨t :: ts, N, B⟩ by unfold wPair; simp only; rw [if_neg ht])
              have hte : t.isEmpty = false := by cases t with
                | nil => exact absurd rfl ht
                | cons x y => rfl
              have hne : (t == []) = false := by cases t with
                | nil => exact absurd rfl ht
                | cons x y => rfl
              clear ht
              go_wp2_with fail
              refine (demand_ok _).mono ?_; rintro e w2 ⟨rfl, rfl⟩
              go_wp2_with fail
              refine HTE.out.mono ?_; rintro e w2 (⟨s3, hs3, rfl, hW3⟩ | ⟨hs3, rfl, hB⟩)
              · have HW3 := Lib.hid hW3
                have HN3 := Lib.hid (rep_next HREP.out (HPE.out.trans hs3))
                have hr3 : room s3 ≤ 800000 := by have := room_text hs3; omega
                have HTL3 := Lib.hid (show s3.T.length = n - (j + 1) by rw [text_drop hs3, List.length_drop, HTL.out]; omega)
                clear hW3 hs3
                go_wp2_with fail
                go_roundg (m - (j + 1))
                case measure => have := HG.out; omega
                case rel => exact ⟨j + 1, s3, by go_num, by omega, rfl, HN3.out, HTL3.out, hr3, HW3.out⟩
              · have HN3 := Lib.hid (rep_fail (n := m) HREP.out (HPE.out.trans hs3) hlt)
                clear hs3
                go_wp2_with fail
                exact ⟨rfl, .inr ⟨HR.out.trans (by rw [HN3.out]; rfl), rfl, hB⟩⟩
        · obtain rfl : j = m := by omega
          have hbz : s2.B.length ≤ 1000000 := by have := room_B s2; omega
          go_wp2_with fail
          refine (zero_any w0 wr s2 hbz HW2.out).mono ?_; rintro e w3 (⟨s', hs', rfl, hW3⟩ | ⟨hs', _⟩)
          · obtain rfl := Option.some.inj hs'
            go_wp2_with fail
            go_end0
            exact .inl ⟨_, HR.out.trans (by rw [HREP.out]; rfl), rfl, hW3⟩
          · cases hs'
    · have HR := Lib.hid (show R = none by rw [HR.out, if_neg h2])
      have h2b : ((m : Int) % 2 == 0) = false := by rw [beq_eq_false_iff_ne]; exact h2
      obtain ⟨tv, nv, bv, hWB⟩ := HW.out
      have HBL := Lib.hid hWB.below
      clear h2 hWB
      go_wp2_with fail
      refine (demand_no _).mono ?_; rintro e w2 ⟨rfl, rfl⟩
      go_wp2_with fail
      exact ⟨rfl, .inr ⟨HR.out, rfl, HBL.out⟩⟩
  · go_wp2_with fail
    exact ⟨rfl, .inr ⟨HR.out, rfl, hB⟩⟩
end Go.Proofs.YtfdffiphlpeegaaDoor

namespace Go.Proofs.YtfdffiphlpeegaaDoor
open Go.RowKit Go.Lib Go.WideShapes

set_option maxRecDepth 100000 in
set_option maxHeartbeats 8000000 in
theorem fields_any (w0 w : World) (s : WS) (hr : room s ≤ 800000) (h : IsW w0 w s) :
    Calls Tryd.prog 57 #[.pointer (some ⟨w0.heap.size, 0, none⟩)] w (WOut w0 (wFields s)) := by
  have hh := h
  obtain ⟨tv, nv, bv, hW⟩ := hh
  obtain ⟨a, n, c, rfl, hl, _, hc9, _⟩ := hW.texts
  have c0 := hW.c0
  have HN := Lib.hid (nextnum_any w0 w s 0 n h)
  obtain ⟨R, hR⟩ : ∃ R, R = wFields s := ⟨_, rfl⟩
  rw [← hR]
  unfold wFields at hR
  rw [hl] at hR
  generalize hx : wNum 0 n s = r at HN hR
  have HX := Lib.hid hx; have HR := Lib.hid hR
  clear hx hR h hW hl
  go_enter Tryd.func57, Tryd.ntmps57
  go_wp2_with fail
  refine HN.out.mono ?_; rintro e w1 (⟨k, s1, rfl, rfl, hW⟩ | ⟨rfl, rfl, hB⟩)
  · have HW := Lib.hid hW
    have hs1 : room s1 ≤ 800000 := by have := (room_num HX.out).2.2; omega
    obtain ⟨hk0, hk1⟩ := num_range HX.out
    have HR := Lib.hid (show R = (rep k.toNat wItem s1).map wZero from HR.out)
    obtain ⟨m, rfl⟩ := Int.eq_ofNat_of_zero_le hk0
    rw [Int.toNat_natCast] at HR
    have hmn : m ≤ n := by omega
    clear hW HX HN hk0 c0
    go_wp2_with fail
    go_loopg [11] m (fun g i wr => ∃ (j : Nat) (s2 : WS), i = .int .i64 j ∧ j ≤ m ∧ g = m - j ∧ rep j wItem s1 = some s2 ∧ room s2 ≤ 800000 ∧ IsW w0 wr s2)
    case atStart => exact ⟨0, s1, rfl, Nat.zero_le _, rfl, rfl, hs1, HW.out⟩
    case round =>
      obtain ⟨j, s2, rfl, hj, hg, hrep, hr2, hW2⟩ := hrel
      have HREP := Lib.hid hrep; have HW2 := Lib.hid hW2; have HG := Lib.hid hg
      clear hrep hW2 hg
      by_cases hlt : j < m
      · have hlt' : (j : Int) < m := by omega
        have HNU := Lib.hid (number_any w0 wr s2 1 255 1 (by omega) (by omega) (by omega) (Nat.le_trans (room_B s2) (by omega)) HW2.out)
        generalize hx : wNumber 1 255 1 s2 = r2 at HNU
        have HX2 := Lib.hid hx
        clear hx
        go_wp2_with fail
        refine HNU.out.mono ?_; rintro e w2 (⟨x, s3, rfl, rfl, hW3⟩ | ⟨rfl, rfl, hB⟩)
        · have HW3 := Lib.hid hW3
          have hr3 : room s3 ≤ 800000 := Nat.le_trans (room_number HX2.out (by omega)).1 hr2
          have HI := Lib.hid (show wItem s2 = wText s3 by unfold wItem; rw [HX2.out]; rfl)
          clear hW3 HNU HX2
          go_wp2_with fail
          refine (text_any w0 w2 s3 (by omega) HW3.out).mono ?_; rintro e w3 (⟨s4, hs4, rfl, hW4⟩ | ⟨hs4, rfl, hB⟩)
          · have HW4 := Lib.hid hW4
            have HN4 := Lib.hid (rep_next HREP.out (HI.out.trans hs4))
            have hr4 : room s4 ≤ 800000 := by have := room_text hs4; omega
            clear hW4 hs4
            go_wp2_with fail
            go_roundg (m - (j + 1))
            case measure => have := HG.out; omega
            case rel => exact ⟨j + 1, s4, by go_num, by omega, rfl, HN4.out, hr4, HW4.out⟩
          · have HN4 := Lib.hid (rep_fail (n := m) HREP.out (HI.out.trans hs4) hlt)
            clear hs4
            go_wp2_with fail
            exact ⟨rfl, .inr ⟨HR.out.trans (by rw [HN4.out]; rfl), rfl, hB⟩⟩
        · have HN4 := Lib.hid (rep_fail (n := m) HREP.out (show wItem s2 = none by unfold wItem; rw [HX2.out]; rfl) hlt)
          go_wp2_with fail
          exact ⟨rfl, .inr ⟨HR.out.trans (by rw [HN4.out]; rfl), rfl, hB⟩⟩
      · obtain rfl : j = m := by omega
        have hbz : s2.B.length ≤ 1000000 := by have := room_B s2; omega
        go_wp2_with fail
        refine (zero_any w0 wr s2 hbz HW2.out).mono ?_; rintro e w3 (⟨s', hs', rfl, hW3⟩ | ⟨hs', _⟩)
        · obtain rfl := Option.some.inj hs'
          go_wp2_with fail
          go_end0
          exact .inl ⟨_, HR.out.trans (by rw [HREP.out]; rfl), rfl, hW3⟩
        · cases hs'
  · go_wp2_with fail
    exact ⟨rfl, .inr ⟨HR.out, rfl, hB⟩⟩

theorem short_room {s s' : WS} (h : wShort s = some s') : room s' ≤ room s := by
  unfold wShort at h
  cases hN : wNumber (-32768) 32767 2 s with
  | none => rw [hN] at h; cases h
  | some p => rw [hN] at h; obtain rfl := Option.some.inj h; exact (room_number (n := p.1) (s' := p.2) hN (by omega)).1
theorem long_room {s s' : WS} (h : wLong s = some s') : room s' ≤ room s := by
  unfold wLong at h
  cases hN : wNumber (-2147483648) 2147483647 4 s with
  | none => rw [hN] at h; cases h
  | some p => rw [hN] at h; obtain rfl := Option.some.inj h; exact (room_number (n := p.1) (s' := p.2) hN (by omega)).1
theorem byte_room {s s' : WS} (h : wByte s = some s') : room s' ≤ room s := by
  unfold wByte at h
  cases hN : wNumber 0 255 1 s with
  | none => rw [hN] at h; cases h
  | some p => rw [hN] at h; obtain rfl := Option.some.inj h; exact (room_number (n := p.1) (s' := p.2) hN (by omega)).1
theorem name_room {s s' : WS} (h : wName s = some s') : room s' ≤ room s := by
  unfold wName at h
  cases hT : wText s with
  | none => rw [hT] at h; cases h
  | some s1 =>
    rw [hT] at h
    obtain rfl := Option.some.inj h
    have := room_text hT
    unfold room at this ⊢
    show (s1.B ++ List.replicate 18 0).length + ((s1.T.map fun t => t.length + 19).sum + 4 * s1.N.length) ≤ _
    rw [List.length_append, List.length_replicate]
    omega
theorem raw_room {n : Int} {s s' : WS} (h : wRaw n s = some s') : room s' ≤ room s := by
  unfold wRaw at h
  cases hT : s.T with
  | nil => rw [hT] at h; cases h
  | cons t ts =>
    rw [hT] at h
    simp only at h
    split at h
    · obtain rfl := Option.some.inj h
      unfold room
      rw [hT, List.map_cons, List.sum_cons]
      show (s.B ++ t).length + ((ts.map fun t => t.length + 19).sum + 4 * s.N.length) ≤ _
      rw [List.length_append]
      omega
    · cases h
theorem value_room {s s' : WS} (h : wValue s = some s') : room s' ≤ room s := by
  unfold wValue at h
  cases hN : wNumber (-1) 10000 4 s with
  | none => rw [hN] at h; cases h
  | some p =>
    obtain ⟨n, s1⟩ := p
    have h1 := (room_number hN (by omega)).1
    rw [hN] at h
    have h : (if n < 0 then some s1 else wRaw n s1) = some s' := h
    split at h
    · obtain rfl := Option.some.inj h; exact h1
    · exact Nat.le_trans (raw_room h) h1

end Go.Proofs.YtfdffiphlpeegaaDoor
