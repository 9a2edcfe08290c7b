/- Contracts and mathematics: DCnt, ELook, DField. -/
import Derived.Test.YtmofnkinclckoaaGreatDoorZ14
import Derived.Test.YtmofnkinclckoaaGreatDoorZ4
namespace Go.Proofs.YtmofnkinclckoaaGreatDoor
open Go.RowKit Go.Lib Go.WideShapes

set_option maxRecDepth 100000 in
set_option maxHeartbeats 8000000 in
theorem counted_short_r (w0 w : World) (s : RS) (f : RS → Option RS) (hf : ∀ W s, droom s ≤ 900000 → IsD w0 W s → Calls Tryz.prog 55 #[.pointer (some ⟨w0.heap.size, 0, none⟩)] W (DOut w0 (f s))) (hfr : Nar f) (hr : droom s ≤ 850000) (h : IsD w0 w s) :
    Calls Tryz.prog 54 #[.pointer (some ⟨w0.heap.size, 0, none⟩), .func (.func 55) #[.pointer (some ⟨w0.heap.size, 0, none⟩)] #[]] w (DOut w0 (rCounted f s)) := by
  have HS := Lib.hid (signed_two w0 w s (by unfold droom at hr; omega) h)
  have HSR := Lib.hid (fun n s' => signed_room (k := 2) (s := s) (n := n) (s' := s'))
  have HF := Lib.hid hf; have HFR := Lib.hid hfr
  clear h hf hfr
  obtain ⟨R, hR⟩ : ∃ R, R = rCounted f s := ⟨_, rfl⟩
  rw [← hR]
  unfold rCounted at hR
  generalize rSigned 2 s = r at HS HSR hR
  have HR := Lib.hid hR
  clear hR
  cases r with
  | none =>
    go_enter Tryz.func54, Tryz.ntmps54
    go_wp2_with fail
    refine HS.out.mono ?_; rintro e w1 (⟨_, _, h, _⟩ | ⟨_, rfl, hB⟩)
    · cases h
    · go_wp2_with fail
      exact ⟨rfl, .inr ⟨HR.out, rfl, hB⟩⟩
  | some p =>
    obtain ⟨n, s1⟩ := p
    have hr1 := (HSR.out n s1 rfl).2
    have hd1 : droom s1 ≤ 850000 := by omega
    have hN1 : s1.N.length ≤ 1000000 := by unfold droom at hd1; omega
    have HR := Lib.hid (show R = if 0 ≤ n ∧ n ≤ 100 then rRep n.toNat f (rKeep n s1) else none from HR.out)
    have hk := keep_room n s1
    have hd2 : droom (rKeep n s1) ≤ 850001 := by omega
    clear hk hr1 HSR
    by_cases hrg : 0 ≤ n ∧ n ≤ 100
    · have HR := Lib.hid (HR.out.trans (if_pos hrg))
      obtain ⟨hg1, hg2⟩ := hrg
      obtain ⟨m, rfl⟩ := Int.eq_ofNat_of_zero_le hg1
      rw [Int.toNat_natCast] at HR
      go_enter Tryz.func54, Tryz.ntmps54
      go_wp2_with fail
      refine HS.out.mono ?_; rintro e w1 (⟨n', s1', h, rfl, hI⟩ | ⟨h, _, _⟩)
      case inr => cases h
      obtain ⟨rfl, rfl⟩ := Prod.mk.inj (Option.some.inj h)
      have HI := Lib.hid hI
      clear hI h
      go_wp2_with fail
      refine (demand_ok _).mono ?_; rintro e w2 ⟨rfl, rfl⟩
      go_wp2_with fail
      refine (keep_any w0 _ s1 m hN1 HI.out).mono ?_; rintro e w3 (⟨s2, h2, rfl, hI⟩ | ⟨h2, _, _⟩)
      case inr => cases h2
      obtain rfl := Option.some.inj h2
      generalize rKeep (m : Int) s1 = s2 at hI HR hd2
      have HI3 := Lib.hid hI
      clear hI h2
      go_wp2_with fail
      go_loopg [18] m (fun g i wr => ∃ (j : Nat) (x : RS), i = .int .i64 j ∧ j ≤ m ∧ g = m - j ∧ rRep j f s2 = some x ∧ droom x ≤ 850001 ∧ IsD w0 wr x)
      case atStart => exact ⟨0, s2, rfl, Nat.zero_le _, rfl, rfl, hd2, HI3.out⟩
      case round =>
        obtain ⟨j, x, rfl, hj, hg, hrep, hr2, hW2⟩ := hrel
        have HREP := Lib.hid hrep; have HW2 := Lib.hid hW2; have HG := Lib.hid hg
        clear hrep hW2 hg
        by_cases hlt : j < m
        · have hlt' : (j : Int) < m := by omega
          go_wp2_with fail
          refine (HF.out wr x (by omega) HW2.out).mono ?_; rintro e w4 (⟨s3, hs3, rfl, hW3⟩ | ⟨hs3, rfl, hB⟩)
          · have HW3 := Lib.hid hW3
            have HN3 := Lib.hid (rrep_next HREP.out hs3)
            have hr3 : droom s3 ≤ 850001 := Nat.le_trans (HFR.out _ _ hs3) hr2
            clear hW3 hs3
            go_wp2_with fail
            go_roundg (m - (j + 1))
            case measure => have := HG.out; omega
            case rel => exact ⟨j + 1, s3, by go_num, by omega, rfl, HN3.out, hr3, HW3.out⟩
          · have HN3 := Lib.hid (rrep_fail HREP.out hs3 hlt)
            clear hs3
            go_wp2_with fail
            exact ⟨rfl, .inr ⟨HR.out.trans HN3.out, rfl, hB⟩⟩
        · obtain rfl : j = m := by omega
          go_wp2_with fail
          go_end0
          exact .inl ⟨x, HR.out.trans HREP.out, rfl, HW2.out⟩
    · have HR := Lib.hid (HR.out.trans (if_neg hrg))
      by_cases h1 : 0 ≤ n
      · have h4 : decide (n ≤ 100) = false := decide_eq_false (by omega)
        have h5 : ¬ n ≤ 100 := by omega
        clear hrg
        go_enter Tryz.func54, Tryz.ntmps54
        go_wp2_with fail
        refine HS.out.mono ?_; rintro e w1 (⟨n', s1', h, rfl, hI⟩ | ⟨h, _, _⟩)
        case inr => cases h
        obtain ⟨rfl, rfl⟩ := Prod.mk.inj (Option.some.inj h)
        have HI := Lib.hid hI
        clear hI h
        go_wp2_with fail
        refine (demand_no _).mono ?_; rintro e w2 ⟨rfl, rfl⟩
        go_wp2_with fail
        obtain ⟨_, _, hD⟩ := HI.out
        exact ⟨rfl, .inr ⟨HR.out, rfl, hD.below⟩⟩
      · have h4 : decide (0 ≤ n) = false := decide_eq_false h1
        clear hrg
        go_enter Tryz.func54, Tryz.ntmps54
        go_wp2_with fail
        refine HS.out.mono ?_; rintro e w1 (⟨n', s1', h, rfl, hI⟩ | ⟨h, _, _⟩)
        case inr => cases h
        obtain ⟨rfl, rfl⟩ := Prod.mk.inj (Option.some.inj h)
        have HI := Lib.hid hI
        clear hI h
        go_wp2_with fail
        refine (demand_no _).mono ?_; rintro e w2 ⟨rfl, rfl⟩
        go_wp2_with fail
        obtain ⟨_, _, hD⟩ := HI.out
        exact ⟨rfl, .inr ⟨HR.out, rfl, hD.below⟩⟩

set_option maxRecDepth 100000 in
set_option maxHeartbeats 8000000 in
theorem counted_long_r (w0 w : World) (s : RS) (f : RS → Option RS) (hf : ∀ W s, droom s ≤ 900000 → IsD w0 W s → Calls Tryz.prog 51 #[.pointer (some ⟨w0.heap.size, 0, none⟩)] W (DOut w0 (f s))) (hfr : Nar f) (hr : droom s ≤ 850000) (h : IsD w0 w s) :
    Calls Tryz.prog 54 #[.pointer (some ⟨w0.heap.size, 0, none⟩), .func (.func 51) #[.pointer (some ⟨w0.heap.size, 0, none⟩)] #[]] w (DOut w0 (rCounted f s)) := by
  have HS := Lib.hid (signed_two w0 w s (by unfold droom at hr; omega) h)
  have HSR := Lib.hid (fun n s' => signed_room (k := 2) (s := s) (n := n) (s' := s'))
  have HF := Lib.hid hf; have HFR := Lib.hid hfr
  clear h hf hfr
  obtain ⟨R, hR⟩ : ∃ R, R = rCounted f s := ⟨_, rfl⟩
  rw [← hR]
  unfold rCounted at hR
  generalize rSigned 2 s = r at HS HSR hR
  have HR := Lib.hid hR
  clear hR
  cases r with
  | none =>
    go_enter Tryz.func54, Tryz.ntmps54
    go_wp2_with fail
    refine HS.out.mono ?_; rintro e w1 (⟨_, _, h, _⟩ | ⟨_, rfl, hB⟩)
    · cases h
    · go_wp2_with fail
      exact ⟨rfl, .inr ⟨HR.out, rfl, hB⟩⟩
  | some p =>
    obtain ⟨n, s1⟩ := p
    have hr1 := (HSR.out n s1 rfl).2
    have hd1 : droom s1 ≤ 850000 := by omega
    have hN1 : s1.N.length ≤ 1000000 := by unfold droom at hd1; omega
    have HR := Lib.hid (show R = if 0 ≤ n ∧ n ≤ 100 then rRep n.toNat f (rKeep n s1) else none from HR.out)
    have hk := keep_room n s1
    have hd2 : droom (rKeep n s1) ≤ 850001 := by omega
    clear hk hr1 HSR
    by_cases hrg : 0 ≤ n ∧ n ≤ 100
    · have HR := Lib.hid (HR.out.trans (if_pos hrg))
      obtain ⟨hg1, hg2⟩ := hrg
      obtain ⟨m, rfl⟩ := Int.eq_ofNat_of_zero_le hg1
      rw [Int.toNat_natCast] at HR
      go_enter Tryz.func54, Tryz.ntmps54
      go_wp2_with fail
      refine HS.out.mono ?_; rintro e w1 (⟨n', s1', h, rfl, hI⟩ | ⟨h, _, _⟩)
      case inr => cases h
      obtain ⟨rfl, rfl⟩ := Prod.mk.inj (Option.some.inj h)
      have HI := Lib.hid hI
      clear hI h
      go_wp2_with fail
      refine (demand_ok _).mono ?_; rintro e w2 ⟨rfl, rfl⟩
      go_wp2_with fail
      refine (keep_any w0 _ s1 m hN1 HI.out).mono ?_; rintro e w3 (⟨s2, h2, rfl, hI⟩ | ⟨h2, _, _⟩)
      case inr => cases h2
      obtain rfl := Option.some.inj h2
      generalize rKeep (m : Int) s1 = s2 at hI HR hd2
      have HI3 := Lib.hid hI
      clear hI h2
      go_wp2_with fail
      go_loopg [18] m (fun g i wr => ∃ (j : Nat) (x : RS), i = .int .i64 j ∧ j ≤ m ∧ g = m - j ∧ rRep j f s2 = some x ∧ droom x ≤ 850001 ∧ IsD w0 wr x)
      case atStart => exact ⟨0, s2, rfl, Nat.zero_le _, rfl, rfl, hd2, HI3.out⟩
      case round =>
        obtain ⟨j, x, rfl, hj, hg, hrep, hr2, hW2⟩ := hrel
        have HREP := Lib.hid hrep; have HW2 := Lib.hid hW2; have HG := Lib.hid hg
        clear hrep hW2 hg
        by_cases hlt : j < m
        · have hlt' : (j : Int) < m := by omega
          go_wp2_with fail
          refine (HF.out wr x (by omega) HW2.out).mono ?_; rintro e w4 (⟨s3, hs3, rfl, hW3⟩ | ⟨hs3, rfl, hB⟩)
          · have HW3 := Lib.hid hW3
            have HN3 := Lib.hid (rrep_next HREP.out hs3)
            have hr3 : droom s3 ≤ 850001 := Nat.le_trans (HFR.out _ _ hs3) hr2
            clear hW3 hs3
            go_wp2_with fail
            go_roundg (m - (j + 1))
            case measure => have := HG.out; omega
            case rel => exact ⟨j + 1, s3, by go_num, by omega, rfl, HN3.out, hr3, HW3.out⟩
          · have HN3 := Lib.hid (rrep_fail HREP.out hs3 hlt)
            clear hs3
            go_wp2_with fail
            exact ⟨rfl, .inr ⟨HR.out.trans HN3.out, rfl, hB⟩⟩
        · obtain rfl : j = m := by omega
          go_wp2_with fail
          go_end0
          exact .inl ⟨x, HR.out.trans HREP.out, rfl, HW2.out⟩
    · have HR := Lib.hid (HR.out.trans (if_neg hrg))
      by_cases h1 : 0 ≤ n
      · have h4 : decide (n ≤ 100) = false := decide_eq_false (by omega)
        have h5 : ¬ n ≤ 100 := by omega
        clear hrg
        go_enter Tryz.func54, Tryz.ntmps54
        go_wp2_with fail
        refine HS.out.mono ?_; rintro e w1 (⟨n', s1', h, rfl, hI⟩ | ⟨h, _, _⟩)
        case inr => cases h
        obtain ⟨rfl, rfl⟩ := Prod.mk.inj (Option.some.inj h)
        have HI := Lib.hid hI
        clear hI h
        go_wp2_with fail
        refine (demand_no _).mono ?_; rintro e w2 ⟨rfl, rfl⟩
        go_wp2_with fail
        obtain ⟨_, _, hD⟩ := HI.out
        exact ⟨rfl, .inr ⟨HR.out, rfl, hD.below⟩⟩
      · have h4 : decide (0 ≤ n) = false := decide_eq_false h1
        clear hrg
        go_enter Tryz.func54, Tryz.ntmps54
        go_wp2_with fail
        refine HS.out.mono ?_; rintro e w1 (⟨n', s1', h, rfl, hI⟩ | ⟨h, _, _⟩)
        case inr => cases h
        obtain ⟨rfl, rfl⟩ := Prod.mk.inj (Option.some.inj h)
        have HI := Lib.hid hI
        clear hI h
        go_wp2_with fail
        refine (demand_no _).mono ?_; rintro e w2 ⟨rfl, rfl⟩
        go_wp2_with fail
        obtain ⟨_, _, hD⟩ := HI.out
        exact ⟨rfl, .inr ⟨HR.out, rfl, hD.below⟩⟩

set_option maxRecDepth 100000 in
set_option maxHeartbeats 8000000 in
theorem counted_value_r (w0 w : World) (s : RS) (f : RS → Option RS) (hf : ∀ W s, droom s ≤ 900000 → IsD w0 W s → Calls Tryz.prog 56 #[.pointer (some ⟨w0.heap.size, 0, none⟩)] W (DOut w0 (f s))) (hfr : Nar f) (hr : droom s ≤ 850000) (h : IsD w0 w s) :
    Calls Tryz.prog 54 #[.pointer (some ⟨w0.heap.size, 0, none⟩), .func (.func 56) #[.pointer (some ⟨w0.heap.size, 0, none⟩)] #[]] w (DOut w0 (rCounted f s)) := by
  have HS := Lib.hid (signed_two w0 w s (by unfold droom at hr; omega) h)
  have HSR := Lib.hid (fun n s' => signed_room (k := 2) (s := s) (n := n) (s' := s'))
  have HF := Lib.hid hf; have HFR := Lib.hid hfr
  clear h hf hfr
  obtain ⟨R, hR⟩ : ∃ R, R = rCounted f s := ⟨_, rfl⟩
  rw [← hR]
  unfold rCounted at hR
  generalize rSigned 2 s = r at HS HSR hR
  have HR := Lib.hid hR
  clear hR
  cases r with
  | none =>
    go_enter Tryz.func54, Tryz.ntmps54
    go_wp2_with fail
    refine HS.out.mono ?_; rintro e w1 (⟨_, _, h, _⟩ | ⟨_, rfl, hB⟩)
    · cases h
    · go_wp2_with fail
      exact ⟨rfl, .inr ⟨HR.out, rfl, hB⟩⟩
  | some p =>
    obtain ⟨n, s1⟩ := p
    have hr1 := (HSR.out n s1 rfl).2
    have hd1 : droom s1 ≤ 850000 := by omega
    have hN1 : s1.N.length ≤ 1000000 := by unfold droom at hd1; omega
    have HR := Lib.hid (show R = if 0 ≤ n ∧ n ≤ 100 then rRep n.toNat f (rKeep n s1) else none from HR.out)
    have hk := keep_room n s1
    have hd2 : droom (rKeep n s1) ≤ 850001 := by omega
    clear hk hr1 HSR
    by_cases hrg : 0 ≤ n ∧ n ≤ 100
    · have HR := Lib.hid (HR.out.trans (if_pos hrg))
      obtain ⟨hg1, hg2⟩ := hrg
      obtain ⟨m, rfl⟩ := Int.eq_ofNat_of_zero_le hg1
      rw [Int.toNat_natCast] at HR
      go_enter Tryz.func54, Tryz.ntmps54
      go_wp2_with fail
      refine HS.out.mono ?_; rintro e w1 (⟨n', s1', h, rfl, hI⟩ | ⟨h, _, _⟩)
      case inr => cases h
      obtain ⟨rfl, rfl⟩ := Prod.mk.inj (Option.some.inj h)
      have HI := Lib.hid hI
      clear hI h
      go_wp2_with fail
      refine (demand_ok _).mono ?_; rintro e w2 ⟨rfl, rfl⟩
      go_wp2_with fail
      refine (keep_any w0 _ s1 m hN1 HI.out).mono ?_; rintro e w3 (⟨s2, h2, rfl, hI⟩ | ⟨h2, _, _⟩)
      case inr => cases h2
      obtain rfl := Option.some.inj h2
      generalize rKeep (m : Int) s1 = s2 at hI HR hd2
      have HI3 := Lib.hid hI
      clear hI h2
      go_wp2_with fail
      go_loopg [18] m (fun g i wr => ∃ (j : Nat) (x : RS), i = .int .i64 j ∧ j ≤ m ∧ g = m - j ∧ rRep j f s2 = some x ∧ droom x ≤ 850001 ∧ IsD w0 wr x)
      case atStart => exact ⟨0, s2, rfl, Nat.zero_le _, rfl, rfl, hd2, HI3.out⟩
      case round =>
        obtain ⟨j, x, rfl, hj, hg, hrep, hr2, hW2⟩ := hrel
        have HREP := Lib.hid hrep; have HW2 := Lib.hid hW2; have HG := Lib.hid hg
        clear hrep hW2 hg
        by_cases hlt : j < m
        · have hlt' : (j : Int) < m := by omega
          go_wp2_with fail
          refine (HF.out wr x (by omega) HW2.out).mono ?_; rintro e w4 (⟨s3, hs3, rfl, hW3⟩ | ⟨hs3, rfl, hB⟩)
          · have HW3 := Lib.hid hW3
            have HN3 := Lib.hid (rrep_next HREP.out hs3)
            have hr3 : droom s3 ≤ 850001 := Nat.le_trans (HFR.out _ _ hs3) hr2
            clear hW3 hs3
            go_wp2_with fail
            go_roundg (m - (j + 1))
            case measure => have := HG.out; omega
            case rel => exact ⟨j + 1, s3, by go_num, by omega, rfl, HN3.out, hr3, HW3.out⟩
          · have HN3 := Lib.hid (rrep_fail HREP.out hs3 hlt)
            clear hs3
            go_wp2_with fail
            exact ⟨rfl, .inr ⟨HR.out.trans HN3.out, rfl, hB⟩⟩
        · obtain rfl : j = m := by omega
          go_wp2_with fail
          go_end0
          exact .inl ⟨x, HR.out.trans HREP.out, rfl, HW2.out⟩
    · have HR := Lib.hid (HR.out.trans (if_neg hrg))
      by_cases h1 : 0 ≤ n
      · have h4 : decide (n ≤ 100) = false := decide_eq_false (by omega)
        have h5 : ¬ n ≤ 100 := by omega
        clear hrg
        go_enter Tryz.func54, Tryz.ntmps54
        go_wp2_with fail
        refine HS.out.mono ?_; rintro e w1 (⟨n', s1', h, rfl, hI⟩ | ⟨h, _, _⟩)
        case inr => cases h
        obtain ⟨rfl, rfl⟩ := Prod.mk.inj (Option.some.inj h)
        have HI := Lib.hid hI
        clear hI h
        go_wp2_with fail
        refine (demand_no _).mono ?_; rintro e w2 ⟨rfl, rfl⟩
        go_wp2_with fail
        obtain ⟨_, _, hD⟩ := HI.out
        exact ⟨rfl, .inr ⟨HR.out, rfl, hD.below⟩⟩
      · have h4 : decide (0 ≤ n) = false := decide_eq_false h1
        clear hrg
        go_enter Tryz.func54, Tryz.ntmps54
        go_wp2_with fail
        refine HS.out.mono ?_; rintro e w1 (⟨n', s1', h, rfl, hI⟩ | ⟨h, _, _⟩)
        case inr => cases h
        obtain ⟨rfl, rfl⟩ := Prod.mk.inj (Option.some.inj h)
        have HI := Lib.hid hI
        clear hI h
        go_wp2_with fail
        refine (demand_no _).mono ?_; rintro e w2 ⟨rfl, rfl⟩
        go_wp2_with fail
        obtain ⟨_, _, hD⟩ := HI.out
        exact ⟨rfl, .inr ⟨HR.out, rfl, hD.below⟩⟩

set_option maxRecDepth 100000 in
set_option maxHeartbeats 8000000 in
theorem counted_name_r (w0 w : World) (s : RS) (f : RS → Option RS) (hf : ∀ W s, droom s ≤ 900000 → IsD w0 W s → Calls Tryz.prog 57 #[.pointer (some ⟨w0.heap.size, 0, none⟩)] W (DOut w0 (f s))) (hfr : Nar f) (hr : droom s ≤ 850000) (h : IsD w0 w s) :
    Calls Tryz.prog 54 #[.pointer (some ⟨w0.heap.size, 0, none⟩), .func (.func 57) #[.pointer (some ⟨w0.heap.size, 0, none⟩)] #[]] w (DOut w0 (rCounted f s)) := by
  have HS := Lib.hid (signed_two w0 w s (by unfold droom at hr; omega) h)
  have HSR := Lib.hid (fun n s' => signed_room (k := 2) (s := s) (n := n) (s' := s'))
  have HF := Lib.hid hf; have HFR := Lib.hid hfr
  clear h hf hfr
  obtain ⟨R, hR⟩ : ∃ R, R = rCounted f s := ⟨_, rfl⟩
  rw [← hR]
  unfold rCounted at hR
  generalize rSigned 2 s = r at HS HSR hR
  have HR := Lib.hid hR
  clear hR
  cases r with
  | none =>
    go_enter Tryz.func54, Tryz.ntmps54
    go_wp2_with fail
    refine HS.out.mono ?_; rintro e w1 (⟨_, _, h, _⟩ | ⟨_, rfl, hB⟩)
    · cases h
    · go_wp2_with fail
      exact ⟨rfl, .inr ⟨HR.out, rfl, hB⟩⟩
  | some p =>
    obtain ⟨n, s1⟩ := p
    have hr1 := (HSR.out n s1 rfl).2
    have hd1 : droom s1 ≤ 850000 := by omega
    have hN1 : s1.N.length ≤ 1000000 := by unfold droom at hd1; omega
    have HR := Lib.hid (show R = if 0 ≤ n ∧ n ≤ 100 then rRep n.toNat f (rKeep n s1) else none from HR.out)
    have hk := keep_room n s1
    have hd2 : droom (rKeep n s1) ≤ 850001 := by omega
    clear hk hr1 HSR
    by_cases hrg : 0 ≤ n ∧ n ≤ 100
    · have HR := Lib.hid (HR.out.trans (if_pos hrg))
      obtain ⟨hg1, hg2⟩ := hrg
      obtain ⟨m, rfl⟩ := Int.eq_ofNat_of_zero_le hg1
      rw [Int.toNat_natCast] at HR
      go_enter Tryz.func54, Tryz.ntmps54
      go_wp2_with fail
      refine HS.out.mono ?_; rintro e w1 (⟨n', s1', h, rfl, hI⟩ | ⟨h, _, _⟩)
      case inr => cases h
      obtain ⟨rfl, rfl⟩ := Prod.mk.inj (Option.some.inj h)
      have HI := Lib.hid hI
      clear hI h
      go_wp2_with fail
      refine (demand_ok _).mono ?_; rintro e w2 ⟨rfl, rfl⟩
      go_wp2_with fail
      refine (keep_any w0 _ s1 m hN1 HI.out).mono ?_; rintro e w3 (⟨s2, h2, rfl, hI⟩ | ⟨h2, _, _⟩)
      case inr => cases h2
      obtain rfl := Option.some.inj h2
      generalize rKeep (m : Int) s1 = s2 at hI HR hd2
      have HI3 := Lib.hid hI
      clear hI h2
      go_wp2_with fail
      go_loopg [18] m (fun g i wr => ∃ (j : Nat) (x : RS), i = .int .i64 j ∧ j ≤ m ∧ g = m - j ∧ rRep j f s2 = some x ∧ droom x ≤ 850001 ∧ IsD w0 wr x)
      case atStart => exact ⟨0, s2, rfl, Nat.zero_le _, rfl, rfl, hd2, HI3.out⟩
      case round =>
        obtain ⟨j, x, rfl, hj, hg, hrep, hr2, hW2⟩ := hrel
        have HREP := Lib.hid hrep; have HW2 := Lib.hid hW2; have HG := Lib.hid hg
        clear hrep hW2 hg
        by_cases hlt : j < m
        · have hlt' : (j : Int) < m := by omega
          go_wp2_with fail
          refine (HF.out wr x (by omega) HW2.out).mono ?_; rintro e w4 (⟨s3, hs3, rfl, hW3⟩ | ⟨hs3, rfl, hB⟩)
          · have HW3 := Lib.hid hW3
            have HN3 := Lib.hid (rrep_next HREP.out hs3)
            have hr3 : droom s3 ≤ 850001 := Nat.le_trans (HFR.out _ _ hs3) hr2
            clear hW3 hs3
            go_wp2_with fail
            go_roundg (m - (j + 1))
            case measure => have := HG.out; omega
            case rel => exact ⟨j + 1, s3, by go_num, by omega, rfl, HN3.out, hr3, HW3.out⟩
          · have HN3 := Lib.hid (rrep_fail HREP.out hs3 hlt)
            clear hs3
            go_wp2_with fail
            exact ⟨rfl, .inr ⟨HR.out.trans HN3.out, rfl, hB⟩⟩
        · obtain rfl : j = m := by omega
          go_wp2_with fail
          go_end0
          exact .inl ⟨x, HR.out.trans HREP.out, rfl, HW2.out⟩
    · have HR := Lib.hid (HR.out.trans (if_neg hrg))
      by_cases h1 : 0 ≤ n
      · have h4 : decide (n ≤ 100) = false := decide_eq_false (by omega)
        have h5 : ¬ n ≤ 100 := by omega
        clear hrg
        go_enter Tryz.func54, Tryz.ntmps54
        go_wp2_with fail
        refine HS.out.mono ?_; rintro e w1 (⟨n', s1', h, rfl, hI⟩ | ⟨h, _, _⟩)
        case inr => cases h
        obtain ⟨rfl, rfl⟩ := Prod.mk.inj (Option.some.inj h)
        have HI := Lib.hid hI
        clear hI h
        go_wp2_with fail
        refine (demand_no _).mono ?_; rintro e w2 ⟨rfl, rfl⟩
        go_wp2_with fail
        obtain ⟨_, _, hD⟩ := HI.out
        exact ⟨rfl, .inr ⟨HR.out, rfl, hD.below⟩⟩
      · have h4 : decide (0 ≤ n) = false := decide_eq_false h1
        clear hrg
        go_enter Tryz.func54, Tryz.ntmps54
        go_wp2_with fail
        refine HS.out.mono ?_; rintro e w1 (⟨n', s1', h, rfl, hI⟩ | ⟨h, _, _⟩)
        case inr => cases h
        obtain ⟨rfl, rfl⟩ := Prod.mk.inj (Option.some.inj h)
        have HI := Lib.hid hI
        clear hI h
        go_wp2_with fail
        refine (demand_no _).mono ?_; rintro e w2 ⟨rfl, rfl⟩
        go_wp2_with fail
        obtain ⟨_, _, hD⟩ := HI.out
        exact ⟨rfl, .inr ⟨HR.out, rfl, hD.below⟩⟩
end Go.Proofs.YtmofnkinclckoaaGreatDoor

namespace Go.Proofs.YtmofnkinclckoaaGreatDoor

def look : Bs → List Bs → UInt8 → Option Bs
  | k :: ks, r :: rs, c => if c = k then some r else look ks rs c
  | _, _, _ => none
def KC : Bs := [0, 81, 112, 88, 83, 72, 80, 66, 69, 68, 67]
def RC : List Bs := [[105, 112], [115], [115], [], [], [], [115, 115, 108], [115, 115, 99, 118, 99], [115, 105], [98, 115], [98, 115]]
def KS : Bs := [82, 83, 75, 90, 67, 69, 78, 84, 68, 73, 49, 50, 51, 110, 115]
def RS' : List Bs := [[105], [115, 115], [105, 105], [98], [115], [102], [102], [109], [118], [], [], [], [], [], []]
theorem look_client (c : UInt8) : layC c = look KC RC c := rfl
theorem look_server (c : UInt8) : layS c = look KS RS' c := rfl
/-- A letter of a layout. -/
def letter (c : UInt8) : Bool := [115, 98, 105, 112, 102, 99, 108, 118, 109].contains c
theorem look_mem : ∀ {K : Bs} {R : List Bs} {c : UInt8} {r : Bs}, look K R c = some r → r ∈ R
  | k :: ks, r' :: rs, c, r, h => by
    rw [look] at h
    split at h
    · obtain rfl := Option.some.inj h
      exact List.mem_cons_self ..
    · exact List.mem_cons_of_mem _ (look_mem h)
  | [], _, _, _, h => by unfold look at h; cases h
  | _ :: _, [], _, _, h => by unfold look at h; cases h
theorem letters_of : (∀ r ∈ RC, ∀ c ∈ r, letter c = true) ∧ (∀ r ∈ RS', ∀ c ∈ r, letter c = true) := by decide
theorem lens_of : (∀ r ∈ RC, r.length ≤ 5) ∧ (∀ r ∈ RS', r.length ≤ 5) := by decide
theorem lay_letters {back : Bool} {c : UInt8} {l : Bs} (h : lay back c = some l) : (∀ d ∈ l, letter d = true) ∧ l.length ≤ 5 := by
  cases back with
  | true => have h' : look KS RS' c = some l := h; exact ⟨letters_of.2 l (look_mem h'), lens_of.2 l (look_mem h')⟩
  | false => have h' : look KC RC c = some l := h; exact ⟨letters_of.1 l (look_mem h'), lens_of.1 l (look_mem h')⟩
end Go.Proofs.YtmofnkinclckoaaGreatDoor

namespace Go.Proofs.YtmofnkinclckoaaGreatDoor
open Go.RowKit Go.Lib Go.WideShapes

set_option maxRecDepth 100000 in
set_option maxHeartbeats 4000000 in
theorem dfield_115 (w0 w : World) (s : RS) (hr : droom s ≤ 850000) (h : IsD w0 w s) :
    Calls Tryz.prog 37 #[.pointer (some ⟨w0.heap.size, 0, none⟩), .int .u8 115] w (DOut w0 (rText s)) := by
  have HN := Lib.hid (text_r w0 w s (by omega) h)
  obtain ⟨R, hR⟩ : ∃ R, R = rText s := ⟨_, rfl⟩
  rw [← hR] at HN ⊢
  clear hR h hr
  go_enter Tryz.func37, Tryz.ntmps37
  go_wp2_with fail
  refine HN.out.mono ?_; rintro e w1 (⟨s1, hs, rfl, hW⟩ | ⟨hs, rfl, hB⟩)
  · have HS := Lib.hid hs; have HW := Lib.hid hW
    clear hs hW
    go_wp2_with fail
    go_end0
    exact .inl ⟨s1, HS.out, rfl, HW.out⟩
  · have HS := Lib.hid hs
    clear hs
    go_wp2_with fail
    exact ⟨rfl, .inr ⟨HS.out, rfl, hB⟩⟩

set_option maxRecDepth 100000 in
set_option maxHeartbeats 4000000 in
theorem dfield_105 (w0 w : World) (s : RS) (hr : droom s ≤ 850000) (h : IsD w0 w s) :
    Calls Tryz.prog 37 #[.pointer (some ⟨w0.heap.size, 0, none⟩), .int .u8 105] w (DOut w0 (rLong s)) := by
  have HN := Lib.hid (long_r w0 w s (by omega) h)
  obtain ⟨R, hR⟩ : ∃ R, R = rLong s := ⟨_, rfl⟩
  rw [← hR] at HN ⊢
  clear hR h hr
  go_enter Tryz.func37, Tryz.ntmps37
  go_wp2_with fail
  refine HN.out.mono ?_; rintro e w1 (⟨s1, hs, rfl, hW⟩ | ⟨hs, rfl, hB⟩)
  · have HS := Lib.hid hs; have HW := Lib.hid hW
    clear hs hW
    go_wp2_with fail
    go_end0
    exact .inl ⟨s1, HS.out, rfl, HW.out⟩
  · have HS := Lib.hid hs
    clear hs
    go_wp2_with fail
    exact ⟨rfl, .inr ⟨HS.out, rfl, hB⟩⟩

set_option maxRecDepth 100000 in
set_option maxHeartbeats 4000000 in
theorem dfield_112 (w0 w : World) (s : RS) (hr : droom s ≤ 850000) (h : IsD w0 w s) :
    Calls Tryz.prog 37 #[.pointer (some ⟨w0.heap.size, 0, none⟩), .int .u8 112] w (DOut w0 (rPairs s)) := by
  have HN := Lib.hid (pairs_r w0 w s hr h)
  obtain ⟨R, hR⟩ : ∃ R, R = rPairs s := ⟨_, rfl⟩
  rw [← hR] at HN ⊢
  clear hR h hr
  go_enter Tryz.func37, Tryz.ntmps37
  go_wp2_with fail
  refine HN.out.mono ?_; rintro e w1 (⟨s1, hs, rfl, hW⟩ | ⟨hs, rfl, hB⟩)
  · have HS := Lib.hid hs; have HW := Lib.hid hW
    clear hs hW
    go_wp2_with fail
    go_end0
    exact .inl ⟨s1, HS.out, rfl, HW.out⟩
  · have HS := Lib.hid hs
    clear hs
    go_wp2_with fail
    exact ⟨rfl, .inr ⟨HS.out, rfl, hB⟩⟩

set_option maxRecDepth 100000 in
set_option maxHeartbeats 4000000 in
theorem dfield_102 (w0 w : World) (s : RS) (hr : droom s ≤ 850000) (h : IsD w0 w s) :
    Calls Tryz.prog 37 #[.pointer (some ⟨w0.heap.size, 0, none⟩), .int .u8 102] w (DOut w0 (rFields s)) := by
  have HN := Lib.hid (fields_r w0 w s hr h)
  obtain ⟨R, hR⟩ : ∃ R, R = rFields s := ⟨_, rfl⟩
  rw [← hR] at HN ⊢
  clear hR h hr
  go_enter Tryz.func37, Tryz.ntmps37
  go_wp2_with fail
  refine HN.out.mono ?_; rintro e w1 (⟨s1, hs, rfl, hW⟩ | ⟨hs, rfl, hB⟩)
  · have HS := Lib.hid hs; have HW := Lib.hid hW
    clear hs hW
    go_wp2_with fail
    go_end0
    exact .inl ⟨s1, HS.out, rfl, HW.out⟩
  · have HS := Lib.hid hs
    clear hs
    go_wp2_with fail
    exact ⟨rfl, .inr ⟨HS.out, rfl, hB⟩⟩

set_option maxRecDepth 100000 in
set_option maxHeartbeats 4000000 in
theorem dfield_99 (w0 w : World) (s : RS) (hr : droom s ≤ 850000) (h : IsD w0 w s) :
    Calls Tryz.prog 37 #[.pointer (some ⟨w0.heap.size, 0, none⟩), .int .u8 99] w (DOut w0 (rCounted rShort s)) := by
  have HN := Lib.hid (counted_short_r w0 w s rShort (fun W s hs h => short_r w0 W s hs h) nar_short hr h)
  obtain ⟨R, hR⟩ : ∃ R, R = rCounted rShort s := ⟨_, rfl⟩
  rw [← hR] at HN ⊢
  clear hR h hr
  go_enter Tryz.func37, Tryz.ntmps37
  go_wp2_with fail
  refine HN.out.mono ?_; rintro e w1 (⟨s1, hs, rfl, hW⟩ | ⟨hs, rfl, hB⟩)
  · have HS := Lib.hid hs; have HW := Lib.hid hW
    clear hs hW
    go_wp2_with fail
    go_end0
    exact .inl ⟨s1, HS.out, rfl, HW.out⟩
  · have HS := Lib.hid hs
    clear hs
    go_wp2_with fail
    exact ⟨rfl, .inr ⟨HS.out, rfl, hB⟩⟩

set_option maxRecDepth 100000 in
set_option maxHeartbeats 4000000 in
theorem dfield_108 (w0 w : World) (s : RS) (hr : droom s ≤ 850000) (h : IsD w0 w s) :
    Calls Tryz.prog 37 #[.pointer (some ⟨w0.heap.size, 0, none⟩), .int .u8 108] w (DOut w0 (rCounted rLong s)) := by
  have HN := Lib.hid (counted_long_r w0 w s rLong (fun W s hs h => long_r w0 W s hs h) nar_long hr h)
  obtain ⟨R, hR⟩ : ∃ R, R = rCounted rLong s := ⟨_, rfl⟩
  rw [← hR] at HN ⊢
  clear hR h hr
  go_enter Tryz.func37, Tryz.ntmps37
  go_wp2_with fail
  refine HN.out.mono ?_; rintro e w1 (⟨s1, hs, rfl, hW⟩ | ⟨hs, rfl, hB⟩)
  · have HS := Lib.hid hs; have HW := Lib.hid hW
    clear hs hW
    go_wp2_with fail
    go_end0
    exact .inl ⟨s1, HS.out, rfl, HW.out⟩
  · have HS := Lib.hid hs
    clear hs
    go_wp2_with fail
    exact ⟨rfl, .inr ⟨HS.out, rfl, hB⟩⟩

set_option maxRecDepth 100000 in
set_option maxHeartbeats 4000000 in
theorem dfield_118 (w0 w : World) (s : RS) (hr : droom s ≤ 850000) (h : IsD w0 w s) :
    Calls Tryz.prog 37 #[.pointer (some ⟨w0.heap.size, 0, none⟩), .int .u8 118] w (DOut w0 (rCounted rValue s)) := by
  have HN := Lib.hid (counted_value_r w0 w s rValue (fun W s hs h => value_r w0 W s hs h) nar_value hr h)
  obtain ⟨R, hR⟩ : ∃ R, R = rCounted rValue s := ⟨_, rfl⟩
  rw [← hR] at HN ⊢
  clear hR h hr
  go_enter Tryz.func37, Tryz.ntmps37
  go_wp2_with fail
  refine HN.out.mono ?_; rintro e w1 (⟨s1, hs, rfl, hW⟩ | ⟨hs, rfl, hB⟩)
  · have HS := Lib.hid hs; have HW := Lib.hid hW
    clear hs hW
    go_wp2_with fail
    go_end0
    exact .inl ⟨s1, HS.out, rfl, HW.out⟩
  · have HS := Lib.hid hs
    clear hs
    go_wp2_with fail
    exact ⟨rfl, .inr ⟨HS.out, rfl, hB⟩⟩

set_option maxRecDepth 100000 in
set_option maxHeartbeats 4000000 in
theorem dfield_109 (w0 w : World) (s : RS) (hr : droom s ≤ 850000) (h : IsD w0 w s) :
    Calls Tryz.prog 37 #[.pointer (some ⟨w0.heap.size, 0, none⟩), .int .u8 109] w (DOut w0 (rCounted rName s)) := by
  have HN := Lib.hid (counted_name_r w0 w s rName (fun W s hs h => name_r w0 W s hs h) nar_name hr h)
  obtain ⟨R, hR⟩ : ∃ R, R = rCounted rName s := ⟨_, rfl⟩
  rw [← hR] at HN ⊢
  clear hR h hr
  go_enter Tryz.func37, Tryz.ntmps37
  go_wp2_with fail
  refine HN.out.mono ?_; rintro e w1 (⟨s1, hs, rfl, hW⟩ | ⟨hs, rfl, hB⟩)
  · have HS := Lib.hid hs; have HW := Lib.hid hW
    clear hs hW
    go_wp2_with fail
    go_end0
    exact .inl ⟨s1, HS.out, rfl, HW.out⟩
  · have HS := Lib.hid hs
    clear hs
    go_wp2_with fail
    exact ⟨rfl, .inr ⟨HS.out, rfl, hB⟩⟩

set_option maxRecDepth 100000 in
set_option maxHeartbeats 4000000 in
theorem dfield_98 (w0 w : World) (s : RS) (hr : droom s ≤ 850000) (h : IsD w0 w s) :
    Calls Tryz.prog 37 #[.pointer (some ⟨w0.heap.size, 0, none⟩), .int .u8 98] w (DOut w0 (rByte s)) := by
  have HU := Lib.hid (unsigned_any w0 w s 1 (by decide) (by unfold droom at hr; omega) h)
  have HUO := Lib.hid (show ∀ n s', rUnsigned 1 s = some (n, s') → s'.N.length ≤ 1000000 from by
    intro n s' e
    unfold rUnsigned at e
    cases hy : rTake 1 s with
    | none => rw [hy] at e; cases e
    | some p =>
      obtain ⟨b, s1⟩ := p
      rw [hy] at e
      simp only [Option.map_some, Option.some.injEq, Prod.mk.injEq] at e
      obtain ⟨_, rfl⟩ := e
      rw [(take_out hy).2.2.2]
      unfold droom at hr; omega)
  unfold rByte
  generalize rUnsigned 1 s = U at HU HUO ⊢
  clear h hr
  go_enter Tryz.func37, Tryz.ntmps37
  go_wp2_with fail
  refine HU.out.mono ?_; rintro e w2 (⟨n, s1, rfl, rfl, hI⟩ | ⟨rfl, rfl, hB⟩)
  · have hN1 := HUO.out n s1 rfl
    have HI2 := Lib.hid hI
    clear hI
    go_wp2_with fail
    refine (keep_any w0 w2 s1 n hN1 HI2.out).mono ?_; rintro e w3 (⟨s2, h2, rfl, hI⟩ | ⟨h2, _, _⟩)
    case inr => cases h2
    obtain rfl := Option.some.inj h2
    have HI3 := Lib.hid hI
    clear hI h2
    go_wp2_with fail
    go_end0
    exact .inl ⟨_, rfl, rfl, HI3.out⟩
  · go_wp2_with fail
    exact ⟨rfl, .inr ⟨rfl, rfl, hB⟩⟩

theorem dfield_any (w0 w : World) (s : RS) (c : UInt8) (hc : letter c = true) (hr : droom s ≤ 850000) (h : IsD w0 w s) :
    Calls Tryz.prog 37 #[.pointer (some ⟨w0.heap.size, 0, none⟩), .int .u8 (c.toNat : Nat)] w (DOut w0 (rField c s)) := by
  have hm : c = 115 ∨ c = 98 ∨ c = 105 ∨ c = 112 ∨ c = 102 ∨ c = 99 ∨ c = 108 ∨ c = 118 ∨ c = 109 := by
    simpa [letter] using hc
  rcases hm with rfl | rfl | rfl | rfl | rfl | rfl | rfl | rfl | rfl
  · exact dfield_115 w0 w s hr h
  · exact dfield_98 w0 w s hr h
  · exact dfield_105 w0 w s hr h
  · exact dfield_112 w0 w s hr h
  · exact dfield_102 w0 w s hr h
  · exact dfield_99 w0 w s hr h
  · exact dfield_108 w0 w s hr h
  · exact dfield_118 w0 w s hr h
  · exact dfield_109 w0 w s hr h
end Go.Proofs.YtmofnkinclckoaaGreatDoor
