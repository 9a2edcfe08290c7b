/- The reader: what is counted. -/
import Derived.Test.YtfdffiphlpeegaaDoorDFlds
import Derived.Test.YtfdffiphlpeegaaDoorDVal
namespace Go.Proofs.YtfdffiphlpeegaaDoor
open Go.RowKit Go.Lib Go.WideShapes

set_option maxRecDepth 100000 in
set_option maxHeartbeats 8000000 in
theorem counted_short_r (w0 w : World) (s : RS) (f : RS → Option RS) (hf : ∀ W s, droom s ≤ 900000 → IsD w0 W s → Calls Tryd.prog 44 #[.pointer (some ⟨w0.heap.size, 0, none⟩)] W (DOut w0 (f s))) (hfr : Nar f) (hr : droom s ≤ 850000) (h : IsD w0 w s) :
    Calls Tryd.prog 43 #[.pointer (some ⟨w0.heap.size, 0, none⟩), .func (.func 44) #[.pointer (some ⟨w0.heap.size, 0, none⟩)] #[]] w (DOut w0 (rCounted f s)) := by
  have HS := Lib.hid (signed_two w0 w s (by unfold droom at hr; omega) h)
  have HSR := Lib.hid (fun n s' => signed_room (k := 2) (s := s) (n := n) (s' := s'))
  have HF := Lib.hid hf; have HFR := Lib.hid hfr
  clear h hf hfr
  obtain ⟨R, hR⟩ : ∃ R, R = rCounted f s := ⟨_, rfl⟩
  rw [← hR]
  unfold rCounted at hR
  generalize rSigned 2 s = r at HS HSR hR
  have HR := Lib.hid hR
  clear hR
  cases r with
  | none =>
    go_enter Tryd.func43, Tryd.ntmps43
    go_wp2_with fail
    refine HS.out.mono ?_; rintro e w1 (⟨_, _, h, _⟩ | ⟨_, rfl, hB⟩)
    · cases h
    · go_wp2_with fail
      exact ⟨rfl, .inr ⟨HR.out, rfl, hB⟩⟩
  | some p =>
    obtain ⟨n, s1⟩ := p
    have hr1 := (HSR.out n s1 rfl).2
    have hd1 : droom s1 ≤ 850000 := by omega
    have hN1 : s1.N.length ≤ 1000000 := by unfold droom at hd1; omega
    have HR := Lib.hid (show R = if 0 ≤ n ∧ n ≤ 100 then rRep n.toNat f (rKeep n s1) else none from HR.out)
    have hk := keep_room n s1
    have hd2 : droom (rKeep n s1) ≤ 850001 := by omega
    clear hk hr1 HSR
    by_cases hrg : 0 ≤ n ∧ n ≤ 100
    · have HR := Lib.hid (HR.out.trans (if_pos hrg))
      obtain ⟨hg1, hg2⟩ := hrg
      obtain ⟨m, rfl⟩ := Int.eq_ofNat_of_zero_le hg1
      rw [Int.toNat_natCast] at HR
      go_enter Tryd.func43, Tryd.ntmps43
      go_wp2_with fail
      refine HS.out.mono ?_; rintro e w1 (⟨n', s1', h, rfl, hI⟩ | ⟨h, _, _⟩)
      case inr => cases h
      obtain ⟨rfl, rfl⟩ := Prod.mk.inj (Option.some.inj h)
      have HI := Lib.hid hI
      clear hI h
      go_wp2_with fail
      refine (demand_ok _).mono ?_; rintro e w2 ⟨rfl, rfl⟩
      go_wp2_with fail
      refine (keep_any w0 _ s1 m hN1 HI.out).mono ?_; rintro e w3 (⟨s2, h2, rfl, hI⟩ | ⟨h2, _, _⟩)
      case inr => cases h2
      obtain rfl := Option.some.inj h2
      generalize rKeep (m : Int) s1 = s2 at hI HR hd2
      have HI3 := Lib.hid hI
      clear hI h2
      go_wp2_with fail
      go_loopg [18] m (fun g i wr => ∃ (j : Nat) (x : RS), i = .int .i64 j ∧ j ≤ m ∧ g = m - j ∧ rRep j f s2 = some x ∧ droom x ≤ 850001 ∧ IsD w0 wr x)
      case atStart => exact ⟨0, s2, rfl, Nat.zero_le _, rfl, rfl, hd2, HI3.out⟩
      case round =>
        obtain ⟨j, x, rfl, hj, hg, hrep, hr2, hW2⟩ := hrel
        have HREP := Lib.hid hrep; have HW2 := Lib.hid hW2; have HG := Lib.hid hg
        clear hrep hW2 hg
        by_cases hlt : j < m
        · have hlt' : (j : Int) < m := by omega
          go_wp2_with fail
          refine (HF.out wr x (by omega) HW2.out).mono ?_; rintro e w4 (⟨s3, hs3, rfl, hW3⟩ | ⟨hs3, rfl, hB⟩)
          · have HW3 := Lib.hid hW3
            have HN3 := Lib.hid (rrep_next HREP.out hs3)
            have hr3 : droom s3 ≤ 850001 := Nat.le_trans (HFR.out _ _ hs3) hr2
            clear hW3 hs3
            go_wp2_with fail
            go_roundg (m - (j + 1))
            case measure => have := HG.out; omega
            case rel => exact ⟨j + 1, s3, by go_num, by omega, rfl, HN3.out, hr3, HW3.out⟩
          · have HN3 := Lib.hid (rrep_fail HREP.out hs3 hlt)
            clear hs3
            go_wp2_with fail
            exact ⟨rfl, .inr ⟨HR.out.trans HN3.out, rfl, hB⟩⟩
        · obtain rfl : j = m := by omega
          go_wp2_with fail
          go_end0
          exact .inl ⟨x, HR.out.trans HREP.out, rfl, HW2.out⟩
    · have HR := Lib.hid (HR.out.trans (if_neg hrg))
      by_cases h1 : 0 ≤ n
      · have h4 : decide (n ≤ 100) = false := decide_eq_false (by omega)
        have h5 : ¬ n ≤ 100 := by omega
        clear hrg
        go_enter Tryd.func43, Tryd.ntmps43
        go_wp2_with fail
        refine HS.out.mono ?_; rintro e w1 (⟨n', s1', h, rfl, hI⟩ | ⟨h, _, _⟩)
        case inr => cases h
        obtain ⟨rfl, rfl⟩ := Prod.mk.inj (Option.some.inj h)
        have HI := Lib.hid hI
        clear hI h
        go_wp2_with fail
        refine (demand_no _).mono ?_; rintro e w2 ⟨rfl, rfl⟩
        go_wp2_with fail
        obtain ⟨_, _, hD⟩ := HI.out
        exact ⟨rfl, .inr ⟨HR.out, rfl, hD.below⟩⟩
      · have h4 : decide (0 ≤ n) = false := decide_eq_false h1
        clear hrg
        go_enter Tryd.func43, Tryd.ntmps43
        go_wp2_with fail
        refine HS.out.mono ?_; rintro e w1 (⟨n', s1', h, rfl, hI⟩ | ⟨h, _, _⟩)
        case inr => cases h
        obtain ⟨rfl, rfl⟩ := Prod.mk.inj (Option.some.inj h)
        have HI := Lib.hid hI
        clear hI h
        go_wp2_with fail
        refine (demand_no _).mono ?_; rintro e w2 ⟨rfl, rfl⟩
        go_wp2_with fail
        obtain ⟨_, _, hD⟩ := HI.out
        exact ⟨rfl, .inr ⟨HR.out, rfl, hD.below⟩⟩

set_option maxRecDepth 100000 in
set_option maxHeartbeats 8000000 in
theorem counted_long_r (w0 w : World) (s : RS) (f : RS → Option RS) (hf : ∀ W s, droom s ≤ 900000 → IsD w0 W s → Calls Tryd.prog 40 #[.pointer (some ⟨w0.heap.size, 0, none⟩)] W (DOut w0 (f s))) (hfr : Nar f) (hr : droom s ≤ 850000) (h : IsD w0 w s) :
    Calls Tryd.prog 43 #[.pointer (some ⟨w0.heap.size, 0, none⟩), .func (.func 40) #[.pointer (some ⟨w0.heap.size, 0, none⟩)] #[]] w (DOut w0 (rCounted f s)) := by
  have HS := Lib.hid (signed_two w0 w s (by unfold droom at hr; omega) h)
  have HSR := Lib.hid (fun n s' => signed_room (k := 2) (s := s) (n := n) (s' := s'))
  have HF := Lib.hid hf; have HFR := Lib.hid hfr
  clear h hf hfr
  obtain ⟨R, hR⟩ : ∃ R, R = rCounted f s := ⟨_, rfl⟩
  rw [← hR]
  unfold rCounted at hR
  generalize rSigned 2 s = r at HS HSR hR
  have HR := Lib.hid hR
  clear hR
  cases r with
  | none =>
    go_enter Tryd.func43, Tryd.ntmps43
    go_wp2_with fail
    refine HS.out.mono ?_; rintro e w1 (⟨_, _, h, _⟩ | ⟨_, rfl, hB⟩)
    · cases h
    · go_wp2_with fail
      exact ⟨rfl, .inr ⟨HR.out, rfl, hB⟩⟩
  | some p =>
    obtain ⟨n, s1⟩ := p
    have hr1 := (HSR.out n s1 rfl).2
    have hd1 : droom s1 ≤ 850000 := by omega
    have hN1 : s1.N.length ≤ 1000000 := by unfold droom at hd1; omega
    have HR := Lib.hid (show R = if 0 ≤ n ∧ n ≤ 100 then rRep n.toNat f (rKeep n s1) else none from HR.out)
    have hk := keep_room n s1
    have hd2 : droom (rKeep n s1) ≤ 850001 := by omega
    clear hk hr1 HSR
    by_cases hrg : 0 ≤ n ∧ n ≤ 100
    · have HR := Lib.hid (HR.out.trans (if_pos hrg))
      obtain ⟨hg1, hg2⟩ := hrg
      obtain ⟨m, rfl⟩ := Int.eq_ofNat_of_zero_le hg1
      rw [Int.toNat_natCast] at HR
      go_enter Tryd.func43, Tryd.ntmps43
      go_wp2_with fail
      refine HS.out.mono ?_; rintro e w1 (⟨n', s1', h, rfl, hI⟩ | ⟨h, _, _⟩)
      case inr => cases h
      obtain ⟨rfl, rfl⟩ := Prod.mk.inj (Option.some.inj h)
      have HI := Lib.hid hI
      clear hI h
      go_wp2_with fail
      refine (demand_ok _).mono ?_; rintro e w2 ⟨rfl, rfl⟩
      go_wp2_with fail
      refine (keep_any w0 _ s1 m hN1 HI.out).mono ?_; rintro e w3 (⟨s2, h2, rfl, hI⟩ | ⟨h2, _, _⟩)
      case inr => cases h2
      obtain rfl := Option.some.inj h2
      generalize rKeep (m : Int) s1 = s2 at hI HR hd2
      have HI3 := Lib.hid hI
      clear hI h2
      go_wp2_with fail
      go_loopg [18] m (fun g i wr => ∃ (j : Nat) (x : RS), i = .int .i64 j ∧ j ≤ m ∧ g = m - j ∧ rRep j f s2 = some x ∧ droom x ≤ 850001 ∧ IsD w0 wr x)
      case atStart => exact ⟨0, s2, rfl, Nat.zero_le _, rfl, rfl, hd2, HI3.out⟩
      case round =>
        obtain ⟨j, x, rfl, hj, hg, hrep, hr2, hW2⟩ := hrel
        have HREP := Lib.hid hrep; have HW2 := Lib.hid hW2; have HG := Lib.hid hg
        clear hrep hW2 hg
        by_cases hlt : j < m
        · have hlt' : (j : Int) < m := by omega
          go_wp2_with fail
          refine (HF.out wr x (by omega) HW2.out).mono ?_; rintro e w4 (⟨s3, hs3, rfl, hW3⟩ | ⟨hs3, rfl, hB⟩)
          · have HW3 := Lib.hid hW3
            have HN3 := Lib.hid (rrep_next HREP.out hs3)
            have hr3 : droom s3 ≤ 850001 := Nat.le_trans (HFR.out _ _ hs3) hr2
            clear hW3 hs3
            go_wp2_with fail
            go_roundg (m - (j + 1))
            case measure => have := HG.out; omega
            case rel => exact ⟨j + 1, s3, by go_num, by omega, rfl, HN3.out, hr3, HW3.out⟩
          · have HN3 := Lib.hid (rrep_fail HREP.out hs3 hlt)
            clear hs3
            go_wp2_with fail
            exact ⟨rfl, .inr ⟨HR.out.trans HN3.out, rfl, hB⟩⟩
        · obtain rfl : j = m := by omega
          go_wp2_with fail
          go_end0
          exact .inl ⟨x, HR.out.trans HREP.out, rfl, HW2.out⟩
    · have HR := Lib.hid (HR.out.trans (if_neg hrg))
      by_cases h1 : 0 ≤ n
      · have h4 : decide (n ≤ 100) = false := decide_eq_false (by omega)
        have h5 : ¬ n ≤ 100 := by omega
        clear hrg
        go_enter Tryd.func43, Tryd.ntmps43
        go_wp2_with fail
        refine HS.out.mono ?_; rintro e w1 (⟨n', s1', h, rfl, hI⟩ | ⟨h, _, _⟩)
        case inr => cases h
        obtain ⟨rfl, rfl⟩ := Prod.mk.inj (Option.some.inj h)
        have HI := Lib.hid hI
        clear hI h
        go_wp2_with fail
        refine (demand_no _).mono ?_; rintro e w2 ⟨rfl, rfl⟩
        go_wp2_with fail
        obtain ⟨_, _, hD⟩ := HI.out
        exact ⟨rfl, .inr ⟨HR.out, rfl, hD.below⟩⟩
      · have h4 : decide (0 ≤ n) = false := decide_eq_false h1
        clear hrg
        go_enter Tryd.func43, Tryd.ntmps43
        go_wp2_with fail
        refine HS.out.mono ?_; rintro e w1 (⟨n', s1', h, rfl, hI⟩ | ⟨h, _, _⟩)
        case inr => cases h
        obtain ⟨rfl, rfl⟩ := Prod.mk.inj (Option.some.inj h)
        have HI := Lib.hid hI
        clear hI h
        go_wp2_with fail
        refine (demand_no _).mono ?_; rintro e w2 ⟨rfl, rfl⟩
        go_wp2_with fail
        obtain ⟨_, _, hD⟩ := HI.out
        exact ⟨rfl, .inr ⟨HR.out, rfl, hD.below⟩⟩

set_option maxRecDepth 100000 in
set_option maxHeartbeats 8000000 in
theorem counted_value_r (w0 w : World) (s : RS) (f : RS → Option RS) (hf : ∀ W s, droom s ≤ 900000 → IsD w0 W s → Calls Tryd.prog 45 #[.pointer (some ⟨w0.heap.size, 0, none⟩)] W (DOut w0 (f s))) (hfr : Nar f) (hr : droom s ≤ 850000) (h : IsD w0 w s) :
    Calls Tryd.prog 43 #[.pointer (some ⟨w0.heap.size, 0, none⟩), .func (.func 45) #[.pointer (some ⟨w0.heap.size, 0, none⟩)] #[]] w (DOut w0 (rCounted f s)) := by
  have HS := Lib.hid (signed_two w0 w s (by unfold droom at hr; omega) h)
  have HSR := Lib.hid (fun n s' => signed_room (k := 2) (s := s) (n := n) (s' := s'))
  have HF := Lib.hid hf; have HFR := Lib.hid hfr
  clear h hf hfr
  obtain ⟨R, hR⟩ : ∃ R, R = rCounted f s := ⟨_, rfl⟩
  rw [← hR]
  unfold rCounted at hR
  generalize rSigned 2 s = r at HS HSR hR
  have HR := Lib.hid hR
  clear hR
  cases r with
  | none =>
    go_enter Tryd.func43, Tryd.ntmps43
    go_wp2_with fail
    refine HS.out.mono ?_; rintro e w1 (⟨_, _, h, _⟩ | ⟨_, rfl, hB⟩)
    · cases h
    · go_wp2_with fail
      exact ⟨rfl, .inr ⟨HR.out, rfl, hB⟩⟩
  | some p =>
    obtain ⟨n, s1⟩ := p
    have hr1 := (HSR.out n s1 rfl).2
    have hd1 : droom s1 ≤ 850000 := by omega
    have hN1 : s1.N.length ≤ 1000000 := by unfold droom at hd1; omega
    have HR := Lib.hid (show R = if 0 ≤ n ∧ n ≤ 100 then rRep n.toNat f (rKeep n s1) else none from HR.out)
    have hk := keep_room n s1
    have hd2 : droom (rKeep n s1) ≤ 850001 := by omega
    clear hk hr1 HSR
    by_cases hrg : 0 ≤ n ∧ n ≤ 100
    · have HR := Lib.hid (HR.out.trans (if_pos hrg))
      obtain ⟨hg1, hg2⟩ := hrg
      obtain ⟨m, rfl⟩ := Int.eq_ofNat_of_zero_le hg1
      rw [Int.toNat_natCast] at HR
      go_enter Tryd.func43, Tryd.ntmps43
      go_wp2_with fail
      refine HS.out.mono ?_; rintro e w1 (⟨n', s1', h, rfl, hI⟩ | ⟨h, _, _⟩)
      case inr => cases h
      obtain ⟨rfl, rfl⟩ := Prod.mk.inj (Option.some.inj h)
      have HI := Lib.hid hI
      clear hI h
      go_wp2_with fail
      refine (demand_ok _).mono ?_; rintro e w2 ⟨rfl, rfl⟩
      go_wp2_with fail
      refine (keep_any w0 _ s1 m hN1 HI.out).mono ?_; rintro e w3 (⟨s2, h2, rfl, hI⟩ | ⟨h2, _, _⟩)
      case inr => cases h2
      obtain rfl := Option.some.inj h2
      generalize rKeep (m : Int) s1 = s2 at hI HR hd2
      have HI3 := Lib.hid hI
      clear hI h2
      go_wp2_with fail
      go_loopg [18] m (fun g i wr => ∃ (j : Nat) (x : RS), i = .int .i64 j ∧ j ≤ m ∧ g = m - j ∧ rRep j f s2 = some x ∧ droom x ≤ 850001 ∧ IsD w0 wr x)
      case atStart => exact ⟨0, s2, rfl, Nat.zero_le _, rfl, rfl, hd2, HI3.out⟩
      case round =>
        obtain ⟨j, x, rfl, hj, hg, hrep, hr2, hW2⟩ := hrel
        have HREP := Lib.hid hrep; have HW2 := Lib.hid hW2; have HG := Lib.hid hg
        clear hrep hW2 hg
        by_cases hlt : j < m
        · have hlt' : (j : Int) < m := by omega
          go_wp2_with fail
          refine (HF.out wr x (by omega) HW2.out).mono ?_; rintro e w4 (⟨s3, hs3, rfl, hW3⟩ | ⟨hs3, rfl, hB⟩)
          · have HW3 := Lib.hid hW3
            have HN3 := Lib.hid (rrep_next HREP.out hs3)
            have hr3 : droom s3 ≤ 850001 := Nat.le_trans (HFR.out _ _ hs3) hr2
            clear hW3 hs3
            go_wp2_with fail
            go_roundg (m - (j + 1))
            case measure => have := HG.out; omega
            case rel => exact ⟨j + 1, s3, by go_num, by omega, rfl, HN3.out, hr3, HW3.out⟩
          · have HN3 := Lib.hid (rrep_fail HREP.out hs3 hlt)
            clear hs3
            go_wp2_with fail
            exact ⟨rfl, .inr ⟨HR.out.trans HN3.out, rfl, hB⟩⟩
        · obtain rfl : j = m := by omega
          go_wp2_with fail
          go_end0
          exact .inl ⟨x, HR.out.trans HREP.out, rfl, HW2.out⟩
    · have HR := Lib.hid (HR.out.trans (if_neg hrg))
      by_cases h1 : 0 ≤ n
      · have h4 : decide (n ≤ 100) = false := decide_eq_false (by omega)
        have h5 : ¬ n ≤ 100 := by omega
        clear hrg
        go_enter Tryd.func43, Tryd.ntmps43
        go_wp2_with fail
        refine HS.out.mono ?_; rintro e w1 (⟨n', s1', h, rfl, hI⟩ | ⟨h, _, _⟩)
        case inr => cases h
        obtain ⟨rfl, rfl⟩ := Prod.mk.inj (Option.some.inj h)
        have HI := Lib.hid hI
        clear hI h
        go_wp2_with fail
        refine (demand_no _).mono ?_; rintro e w2 ⟨rfl, rfl⟩
        go_wp2_with fail
        obtain ⟨_, _, hD⟩ := HI.out
        exact ⟨rfl, .inr ⟨HR.out, rfl, hD.below⟩⟩
      · have h4 : decide (0 ≤ n) = false := decide_eq_false h1
        clear hrg
        go_enter Tryd.func43, Tryd.ntmps43
        go_wp2_with fail
        refine HS.out.mono ?_; rintro e w1 (⟨n', s1', h, rfl, hI⟩ | ⟨h, _, _⟩)
        case inr => cases h
        obtain ⟨rfl, rfl⟩ := Prod.mk.inj (Option.some.inj h)
        have HI := Lib.hid hI
        clear hI h
        go_wp2_with fail
        refine (demand_no _).mono ?_; rintro e w2 ⟨rfl, rfl⟩
        go_wp2_with fail
        obtain ⟨_, _, hD⟩ := HI.out
        exact ⟨rfl, .inr ⟨HR.out, rfl, hD.below⟩⟩

set_option maxRecDepth 100000 in
set_option maxHeartbeats 8000000 in
theorem counted_name_r (w0 w : World) (s : RS) (f : RS → Option RS) (hf : ∀ W s, droom s ≤ 900000 → IsD w0 W s → Calls Tryd.prog 46 #[.pointer (some ⟨w0.heap.size, 0, none⟩)] W (DOut w0 (f s))) (hfr : Nar f) (hr : droom s ≤ 850000) (h : IsD w0 w s) :
    Calls Tryd.prog 43 #[.pointer (some ⟨w0.heap.size, 0, none⟩), .func (.func 46) #[.pointer (some ⟨w0.heap.size, 0, none⟩)] #[]] w (DOut w0 (rCounted f s)) := by
  have HS := Lib.hid (signed_two w0 w s (by unfold droom at hr; omega) h)
  have HSR := Lib.hid (fun n s' => signed_room (k := 2) (s := s) (n := n) (s' := s'))
  have HF := Lib.hid hf; have HFR := Lib.hid hfr
  clear h hf hfr
  obtain ⟨R, hR⟩ : ∃ R, R = rCounted f s := ⟨_, rfl⟩
  rw [← hR]
  unfold rCounted at hR
  generalize rSigned 2 s = r at HS HSR hR
  have HR := Lib.hid hR
  clear hR
  cases r with
  | none =>
    go_enter Tryd.func43, Tryd.ntmps43
    go_wp2_with fail
    refine HS.out.mono ?_; rintro e w1 (⟨_, _, h, _⟩ | ⟨_, rfl, hB⟩)
    · cases h
    · go_wp2_with fail
      exact ⟨rfl, .inr ⟨HR.out, rfl, hB⟩⟩
  | some p =>
    obtain ⟨n, s1⟩ := p
    have hr1 := (HSR.out n s1 rfl).2
    have hd1 : droom s1 ≤ 850000 := by omega
    have hN1 : s1.N.length ≤ 1000000 := by unfold droom at hd1; omega
    have HR := Lib.hid (show R = if 0 ≤ n ∧ n ≤ 100 then rRep n.toNat f (rKeep n s1) else none from HR.out)
    have hk := keep_room n s1
    have hd2 : droom (rKeep n s1) ≤ 850001 := by omega
    clear hk hr1 HSR
    by_cases hrg : 0 ≤ n ∧ n ≤ 100
    · have HR := Lib.hid (HR.out.trans (if_pos hrg))
      obtain ⟨hg1, hg2⟩ := hrg
      obtain ⟨m, rfl⟩ := Int.eq_ofNat_of_zero_le hg1
      rw [Int.toNat_natCast] at HR
      go_enter Tryd.func43, Tryd.ntmps43
      go_wp2_with fail
      refine HS.out.mono ?_; rintro e w1 (⟨n', s1', h, rfl, hI⟩ | ⟨h, _, _⟩)
      case inr => cases h
      obtain ⟨rfl, rfl⟩ := Prod.mk.inj (Option.some.inj h)
      have HI := Lib.hid hI
      clear hI h
      go_wp2_with fail
      refine (demand_ok _).mono ?_; rintro e w2 ⟨rfl, rfl⟩
      go_wp2_with fail
      refine (keep_any w0 _ s1 m hN1 HI.out).mono ?_; rintro e w3 (⟨s2, h2, rfl, hI⟩ | ⟨h2, _, _⟩)
      case inr => cases h2
      obtain rfl := Option.some.inj h2
      generalize rKeep (m : Int) s1 = s2 at hI HR hd2
      have HI3 := Lib.hid hI
      clear hI h2
      go_wp2_with fail
      go_loopg [18] m (fun g i wr => ∃ (j : Nat) (x : RS), i = .int .i64 j ∧ j ≤ m ∧ g = m - j ∧ rRep j f s2 = some x ∧ droom x ≤ 850001 ∧ IsD w0 wr x)
      case atStart => exact ⟨0, s2, rfl, Nat.zero_le _, rfl, rfl, hd2, HI3.out⟩
      case round =>
        obtain ⟨j, x, rfl, hj, hg, hrep, hr2, hW2⟩ := hrel
        have HREP := Lib.hid hrep; have HW2 := Lib.hid hW2; have HG := Lib.hid hg
        clear hrep hW2 hg
        by_cases hlt : j < m
        · have hlt' : (j : Int) < m := by omega
          go_wp2_with fail
          refine (HF.out wr x (by omega) HW2.out).mono ?_; rintro e w4 (⟨s3, hs3, rfl, hW3⟩ | ⟨hs3, rfl, hB⟩)
          · have HW3 := Lib.hid hW3
            have HN3 := Lib.hid (rrep_next HREP.out hs3)
            have hr3 : droom s3 ≤ 850001 := Nat.le_trans (HFR.out _ _ hs3) hr2
            clear hW3 hs3
            go_wp2_with fail
            go_roundg (m - (j + 1))
            case measure => have := HG.out; omega
            case rel => exact ⟨j + 1, s3, by go_num, by omega, rfl, HN3.out, hr3, HW3.out⟩
          · have HN3 := Lib.hid (rrep_fail HREP.out hs3 hlt)
            clear hs3
            go_wp2_with fail
            exact ⟨rfl, .inr ⟨HR.out.trans HN3.out, rfl, hB⟩⟩
        · obtain rfl : j = m := by omega
          go_wp2_with fail
          go_end0
          exact .inl ⟨x, HR.out.trans HREP.out, rfl, HW2.out⟩
    · have HR := Lib.hid (HR.out.trans (if_neg hrg))
      by_cases h1 : 0 ≤ n
      · have h4 : decide (n ≤ 100) = false := decide_eq_false (by omega)
        have h5 : ¬ n ≤ 100 := by omega
        clear hrg
        go_enter Tryd.func43, Tryd.ntmps43
        go_wp2_with fail
        refine HS.out.mono ?_; rintro e w1 (⟨n', s1', h, rfl, hI⟩ | ⟨h, _, _⟩)
        case inr => cases h
        obtain ⟨rfl, rfl⟩ := Prod.mk.inj (Option.some.inj h)
        have HI := Lib.hid hI
        clear hI h
        go_wp2_with fail
        refine (demand_no _).mono ?_; rintro e w2 ⟨rfl, rfl⟩
        go_wp2_with fail
        obtain ⟨_, _, hD⟩ := HI.out
        exact ⟨rfl, .inr ⟨HR.out, rfl, hD.below⟩⟩
      · have h4 : decide (0 ≤ n) = false := decide_eq_false h1
        clear hrg
        go_enter Tryd.func43, Tryd.ntmps43
        go_wp2_with fail
        refine HS.out.mono ?_; rintro e w1 (⟨n', s1', h, rfl, hI⟩ | ⟨h, _, _⟩)
        case inr => cases h
        obtain ⟨rfl, rfl⟩ := Prod.mk.inj (Option.some.inj h)
        have HI := Lib.hid hI
        clear hI h
        go_wp2_with fail
        refine (demand_no _).mono ?_; rintro e w2 ⟨rfl, rfl⟩
        go_wp2_with fail
        obtain ⟨_, _, hD⟩ := HI.out
        exact ⟨rfl, .inr ⟨HR.out, rfl, hD.below⟩⟩
end Go.Proofs.YtfdffiphlpeegaaDoor
