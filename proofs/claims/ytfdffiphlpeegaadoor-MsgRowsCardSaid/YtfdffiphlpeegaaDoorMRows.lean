/- The fields of a message, written: what is counted. -/
import Derived.Test.YtfdffiphlpeegaaDoorMItems
namespace Go.Proofs.YtfdffiphlpeegaaDoor
open Go.RowKit Go.Lib Go.WideShapes

theorem rep_add (f : WS → Option WS) : ∀ (a b : Nat) (s : WS), rep (a + b) f s = (rep a f s).bind (rep b f) := by
  intro a
  induction a with
  | zero => intro b s; rw [Nat.zero_add]; rfl
  | succ a ih =>
    intro b s
    rw [Nat.succ_add, rep, rep]
    cases f s with
    | none => rfl
    | some s1 => exact ih b s1
theorem rep_fail {f : WS → Option WS} {j n : Nat} {s s' : WS} (h : rep j f s = some s') (hf : f s' = none) (hj : j < n) : rep n f s = none := by
  rw [show n = j + ((n - j - 1) + 1) by omega, rep_add, h]
  show rep ((n - j - 1) + 1) f s' = none
  rw [rep, hf]; rfl
theorem rep_next {f : WS → Option WS} {j : Nat} {s s' s2 : WS} (h : rep j f s = some s') (hf : f s' = some s2) : rep (j + 1) f s = some s2 := by
  rw [rep_succ, h]; exact hf

set_option maxRecDepth 100000 in
set_option maxHeartbeats 8000000 in
theorem counted_short (w0 w : World) (s : WS) (f : WS → Option WS) (hf : ∀ W s, room s ≤ 800000 → IsW w0 W s → Calls Tryd.prog 59 #[.pointer (some ⟨w0.heap.size, 0, none⟩)] W (WOut w0 (f s))) (hfr : ∀ s s', f s = some s' → room s' ≤ room s) (hr : room s ≤ 800000) (h : IsW w0 w s) :
    Calls Tryd.prog 58 #[.pointer (some ⟨w0.heap.size, 0, none⟩), .func (.func 59) #[.pointer (some ⟨w0.heap.size, 0, none⟩)] #[]] w (WOut w0 (wCounted f s)) := by
  have HN := Lib.hid (number_any w0 w s 0 100 2 (by omega) (by omega) (by omega) (Nat.le_trans (room_B s) (by omega)) h)
  have HF := Lib.hid hf; have HFR := Lib.hid hfr
  clear h hf hfr
  obtain ⟨R, hR⟩ : ∃ R, R = wCounted f s := ⟨_, rfl⟩
  rw [← hR]
  unfold wCounted at hR
  generalize hx : wNumber 0 100 2 s = r at HN hR
  have HX := Lib.hid hx; have HR := Lib.hid hR
  clear hx hR
  go_enter Tryd.func58, Tryd.ntmps58
  go_wp2_with fail
  refine HN.out.mono ?_; rintro e w1 (⟨n, s1, rfl, rfl, hW⟩ | ⟨rfl, rfl, hB⟩)
  · have HW := Lib.hid hW
    have hs1 : room s1 ≤ 800000 := Nat.le_trans (room_number HX.out (by omega)).1 hr
    have hn : 0 ≤ n ∧ n ≤ 100 := number_range HX.out
    have HR := Lib.hid (show R = rep n.toNat f s1 from HR.out)
    obtain ⟨hn0, hn1⟩ := hn
    obtain ⟨m, rfl⟩ := Int.eq_ofNat_of_zero_le hn0
    rw [Int.toNat_natCast] at HR
    clear hW HX HN hn0
    go_wp2_with fail
    go_loopg [8] m (fun g i wr => ∃ (j : Nat) (s2 : WS), i = .int .i64 j ∧ j ≤ m ∧ g = m - j ∧ rep j f s1 = some s2 ∧ room s2 ≤ 800000 ∧ IsW w0 wr s2)
    case atStart => exact ⟨0, s1, rfl, Nat.zero_le _, rfl, rfl, hs1, HW.out⟩
    case round =>
      obtain ⟨j, s2, rfl, hj, hg, hrep, hr2, hW2⟩ := hrel
      have HREP := Lib.hid hrep; have HW2 := Lib.hid hW2; have HG := Lib.hid hg
      clear hrep hW2 hg
      by_cases hlt : j < m
      · have hlt' : (j : Int) < m := by omega
        go_wp2_with fail
        refine (HF.out wr s2 hr2 HW2.out).mono ?_; rintro e w2 (⟨s3, hs3, rfl, hW3⟩ | ⟨hs3, rfl, hB⟩)
        · have HW3 := Lib.hid hW3
          have HN3 := Lib.hid (rep_next HREP.out hs3)
          have hr3 : room s3 ≤ 800000 := Nat.le_trans (HFR.out _ _ hs3) hr2
          clear hW3 hs3
          go_wp2_with fail
          go_roundg (m - (j + 1))
          case measure => have := HG.out; omega
          case rel => exact ⟨j + 1, s3, by go_num, by omega, rfl, HN3.out, hr3, HW3.out⟩
        · have HN3 := Lib.hid (rep_fail HREP.out hs3 hlt)
          clear hs3
          go_wp2_with fail
          exact ⟨rfl, .inr ⟨HR.out.trans HN3.out, rfl, hB⟩⟩
      · obtain rfl : j = m := by omega
        go_wp2_with fail
        go_end0
        exact .inl ⟨s2, HR.out.trans HREP.out, rfl, HW2.out⟩
  · go_wp2_with fail
    exact ⟨rfl, .inr ⟨HR.out, rfl, hB⟩⟩

set_option maxRecDepth 100000 in
set_option maxHeartbeats 8000000 in
theorem counted_long (w0 w : World) (s : WS) (f : WS → Option WS) (hf : ∀ W s, room s ≤ 800000 → IsW w0 W s → Calls Tryd.prog 55 #[.pointer (some ⟨w0.heap.size, 0, none⟩)] W (WOut w0 (f s))) (hfr : ∀ s s', f s = some s' → room s' ≤ room s) (hr : room s ≤ 800000) (h : IsW w0 w s) :
    Calls Tryd.prog 58 #[.pointer (some ⟨w0.heap.size, 0, none⟩), .func (.func 55) #[.pointer (some ⟨w0.heap.size, 0, none⟩)] #[]] w (WOut w0 (wCounted f s)) := by
  have HN := Lib.hid (number_any w0 w s 0 100 2 (by omega) (by omega) (by omega) (Nat.le_trans (room_B s) (by omega)) h)
  have HF := Lib.hid hf; have HFR := Lib.hid hfr
  clear h hf hfr
  obtain ⟨R, hR⟩ : ∃ R, R = wCounted f s := ⟨_, rfl⟩
  rw [← hR]
  unfold wCounted at hR
  generalize hx : wNumber 0 100 2 s = r at HN hR
  have HX := Lib.hid hx; have HR := Lib.hid hR
  clear hx hR
  go_enter Tryd.func58, Tryd.ntmps58
  go_wp2_with fail
  refine HN.out.mono ?_; rintro e w1 (⟨n, s1, rfl, rfl, hW⟩ | ⟨rfl, rfl, hB⟩)
  · have HW := Lib.hid hW
    have hs1 : room s1 ≤ 800000 := Nat.le_trans (room_number HX.out (by omega)).1 hr
    have hn : 0 ≤ n ∧ n ≤ 100 := number_range HX.out
    have HR := Lib.hid (show R = rep n.toNat f s1 from HR.out)
    obtain ⟨hn0, hn1⟩ := hn
    obtain ⟨m, rfl⟩ := Int.eq_ofNat_of_zero_le hn0
    rw [Int.toNat_natCast] at HR
    clear hW HX HN hn0
    go_wp2_with fail
    go_loopg [8] m (fun g i wr => ∃ (j : Nat) (s2 : WS), i = .int .i64 j ∧ j ≤ m ∧ g = m - j ∧ rep j f s1 = some s2 ∧ room s2 ≤ 800000 ∧ IsW w0 wr s2)
    case atStart => exact ⟨0, s1, rfl, Nat.zero_le _, rfl, rfl, hs1, HW.out⟩
    case round =>
      obtain ⟨j, s2, rfl, hj, hg, hrep, hr2, hW2⟩ := hrel
      have HREP := Lib.hid hrep; have HW2 := Lib.hid hW2; have HG := Lib.hid hg
      clear hrep hW2 hg
      by_cases hlt : j < m
      · have hlt' : (j : Int) < m := by omega
        go_wp2_with fail
        refine (HF.out wr s2 hr2 HW2.out).mono ?_; rintro e w2 (⟨s3, hs3, rfl, hW3⟩ | ⟨hs3, rfl, hB⟩)
        · have HW3 := Lib.hid hW3
          have HN3 := Lib.hid (rep_next HREP.out hs3)
          have hr3 : room s3 ≤ 800000 := Nat.le_trans (HFR.out _ _ hs3) hr2
          clear hW3 hs3
          go_wp2_with fail
          go_roundg (m - (j + 1))
          case measure => have := HG.out; omega
          case rel => exact ⟨j + 1, s3, by go_num, by omega, rfl, HN3.out, hr3, HW3.out⟩
        · have HN3 := Lib.hid (rep_fail HREP.out hs3 hlt)
          clear hs3
          go_wp2_with fail
          exact ⟨rfl, .inr ⟨HR.out.trans HN3.out, rfl, hB⟩⟩
      · obtain rfl : j = m := by omega
        go_wp2_with fail
        go_end0
        exact .inl ⟨s2, HR.out.trans HREP.out, rfl, HW2.out⟩
  · go_wp2_with fail
    exact ⟨rfl, .inr ⟨HR.out, rfl, hB⟩⟩

set_option maxRecDepth 100000 in
set_option maxHeartbeats 8000000 in
theorem counted_value (w0 w : World) (s : WS) (f : WS → Option WS) (hf : ∀ W s, room s ≤ 800000 → IsW w0 W s → Calls Tryd.prog 60 #[.pointer (some ⟨w0.heap.size, 0, none⟩)] W (WOut w0 (f s))) (hfr : ∀ s s', f s = some s' → room s' ≤ room s) (hr : room s ≤ 800000) (h : IsW w0 w s) :
    Calls Tryd.prog 58 #[.pointer (some ⟨w0.heap.size, 0, none⟩), .func (.func 60) #[.pointer (some ⟨w0.heap.size, 0, none⟩)] #[]] w (WOut w0 (wCounted f s)) := by
  have HN := Lib.hid (number_any w0 w s 0 100 2 (by omega) (by omega) (by omega) (Nat.le_trans (room_B s) (by omega)) h)
  have HF := Lib.hid hf; have HFR := Lib.hid hfr
  clear h hf hfr
  obtain ⟨R, hR⟩ : ∃ R, R = wCounted f s := ⟨_, rfl⟩
  rw [← hR]
  unfold wCounted at hR
  generalize hx : wNumber 0 100 2 s = r at HN hR
  have HX := Lib.hid hx; have HR := Lib.hid hR
  clear hx hR
  go_enter Tryd.func58, Tryd.ntmps58
  go_wp2_with fail
  refine HN.out.mono ?_; rintro e w1 (⟨n, s1, rfl, rfl, hW⟩ | ⟨rfl, rfl, hB⟩)
  · have HW := Lib.hid hW
    have hs1 : room s1 ≤ 800000 := Nat.le_trans (room_number HX.out (by omega)).1 hr
    have hn : 0 ≤ n ∧ n ≤ 100 := number_range HX.out
    have HR := Lib.hid (show R = rep n.toNat f s1 from HR.out)
    obtain ⟨hn0, hn1⟩ := hn
    obtain ⟨m, rfl⟩ := Int.eq_ofNat_of_zero_le hn0
    rw [Int.toNat_natCast] at HR
    clear hW HX HN hn0
    go_wp2_with fail
    go_loopg [8] m (fun g i wr => ∃ (j : Nat) (s2 : WS), i = .int .i64 j ∧ j ≤ m ∧ g = m - j ∧ rep j f s1 = some s2 ∧ room s2 ≤ 800000 ∧ IsW w0 wr s2)
    case atStart => exact ⟨0, s1, rfl, Nat.zero_le _, rfl, rfl, hs1, HW.out⟩
    case round =>
      obtain ⟨j, s2, rfl, hj, hg, hrep, hr2, hW2⟩ := hrel
      have HREP := Lib.hid hrep; have HW2 := Lib.hid hW2; have HG := Lib.hid hg
      clear hrep hW2 hg
      by_cases hlt : j < m
      · have hlt' : (j : Int) < m := by omega
        go_wp2_with fail
        refine (HF.out wr s2 hr2 HW2.out).mono ?_; rintro e w2 (⟨s3, hs3, rfl, hW3⟩ | ⟨hs3, rfl, hB⟩)
        · have HW3 := Lib.hid hW3
          have HN3 := Lib.hid (rep_next HREP.out hs3)
          have hr3 : room s3 ≤ 800000 := Nat.le_trans (HFR.out _ _ hs3) hr2
          clear hW3 hs3
          go_wp2_with fail
          go_roundg (m - (j + 1))
          case measure => have := HG.out; omega
          case rel => exact ⟨j + 1, s3, by go_num, by omega, rfl, HN3.out, hr3, HW3.out⟩
        · have HN3 := Lib.hid (rep_fail HREP.out hs3 hlt)
          clear hs3
          go_wp2_with fail
          exact ⟨rfl, .inr ⟨HR.out.trans HN3.out, rfl, hB⟩⟩
      · obtain rfl : j = m := by omega
        go_wp2_with fail
        go_end0
        exact .inl ⟨s2, HR.out.trans HREP.out, rfl, HW2.out⟩
  · go_wp2_with fail
    exact ⟨rfl, .inr ⟨HR.out, rfl, hB⟩⟩

set_option maxRecDepth 100000 in
set_option maxHeartbeats 8000000 in
theorem counted_name (w0 w : World) (s : WS) (f : WS → Option WS) (hf : ∀ W s, room s ≤ 800000 → IsW w0 W s → Calls Tryd.prog 61 #[.pointer (some ⟨w0.heap.size, 0, none⟩)] W (WOut w0 (f s))) (hfr : ∀ s s', f s = some s' → room s' ≤ room s) (hr : room s ≤ 800000) (h : IsW w0 w s) :
    Calls Tryd.prog 58 #[.pointer (some ⟨w0.heap.size, 0, none⟩), .func (.func 61) #[.pointer (some ⟨w0.heap.size, 0, none⟩)] #[]] w (WOut w0 (wCounted f s)) := by
  have HN := Lib.hid (number_any w0 w s 0 100 2 (by omega) (by omega) (by omega) (Nat.le_trans (room_B s) (by omega)) h)
  have HF := Lib.hid hf; have HFR := Lib.hid hfr
  clear h hf hfr
  obtain ⟨R, hR⟩ : ∃ R, R = wCounted f s := ⟨_, rfl⟩
  rw [← hR]
  unfold wCounted at hR
  generalize hx : wNumber 0 100 2 s = r at HN hR
  have HX := Lib.hid hx; have HR := Lib.hid hR
  clear hx hR
  go_enter Tryd.func58, Tryd.ntmps58
  go_wp2_with fail
  refine HN.out.mono ?_; rintro e w1 (⟨n, s1, rfl, rfl, hW⟩ | ⟨rfl, rfl, hB⟩)
  · have HW := Lib.hid hW
    have hs1 : room s1 ≤ 800000 := Nat.le_trans (room_number HX.out (by omega)).1 hr
    have hn : 0 ≤ n ∧ n ≤ 100 := number_range HX.out
    have HR := Lib.hid (show R = rep n.toNat f s1 from HR.out)
    obtain ⟨hn0, hn1⟩ := hn
    obtain ⟨m, rfl⟩ := Int.eq_ofNat_of_zero_le hn0
    rw [Int.toNat_natCast] at HR
    clear hW HX HN hn0
    go_wp2_with fail
    go_loopg [8] m (fun g i wr => ∃ (j : Nat) (s2 : WS), i = .int .i64 j ∧ j ≤ m ∧ g = m - j ∧ rep j f s1 = some s2 ∧ room s2 ≤ 800000 ∧ IsW w0 wr s2)
    case atStart => exact ⟨0, s1, rfl, Nat.zero_le _, rfl, rfl, hs1, HW.out⟩
    case round =>
      obtain ⟨j, s2, rfl, hj, hg, hrep, hr2, hW2⟩ := hrel
      have HREP := Lib.hid hrep; have HW2 := Lib.hid hW2; have HG := Lib.hid hg
      clear hrep hW2 hg
      by_cases hlt : j < m
      · have hlt' : (j : Int) < m := by omega
        go_wp2_with fail
        refine (HF.out wr s2 hr2 HW2.out).mono ?_; rintro e w2 (⟨s3, hs3, rfl, hW3⟩ | ⟨hs3, rfl, hB⟩)
        · have HW3 := Lib.hid hW3
          have HN3 := Lib.hid (rep_next HREP.out hs3)
          have hr3 : room s3 ≤ 800000 := Nat.le_trans (HFR.out _ _ hs3) hr2
          clear hW3 hs3
          go_wp2_with fail
          go_roundg (m - (j + 1))
          case measure => have := HG.out; omega
          case rel => exact ⟨j + 1, s3, by go_num, by omega, rfl, HN3.out, hr3, HW3.out⟩
        · have HN3 := Lib.hid (rep_fail HREP.out hs3 hlt)
          clear hs3
          go_wp2_with fail
          exact ⟨rfl, .inr ⟨HR.out.trans HN3.out, rfl, hB⟩⟩
      · obtain rfl : j = m := by omega
        go_wp2_with fail
        go_end0
        exact .inl ⟨s2, HR.out.trans HREP.out, rfl, HW2.out⟩
  · go_wp2_with fail
    exact ⟨rfl, .inr ⟨HR.out, rfl, hB⟩⟩

end Go.Proofs.YtfdffiphlpeegaaDoor
