/- Contracts and mathematics: DVal, DCnt. -/
import Derived.Test.YtfdffiphlpeegaaDoorZ11
namespace Go.Proofs.YtfdffiphlpeegaaDoor
open Go.RowKit Go.Lib Go.WideShapes

theorem take_no {w0 w : World} {s : RS} {tv nv : Value} {n : Nat} (hr : rTake n s = none) (hl : s.S.length ≤ 1000000) (hW : DAt w0 w s tv nv) :
    Calls Tryd.prog 63 #[.pointer (some ⟨w0.heap.size, 0, none⟩), .int .i64 n] w (Lost w0) := by
  refine (take_at w0 w s tv nv n hl hW).mono ?_
  rintro e w' (⟨b', s', h1, h2, h3⟩ | ⟨h1, h2⟩)
  · rw [hr] at h1; cases h1
  · exact h2

set_option maxRecDepth 100000 in
set_option maxHeartbeats 8000000 in
theorem value_r (w0 w : World) (s : RS) (hl : droom s ≤ 900000) (h : IsD w0 w s) :
    Calls Tryd.prog 45 #[.pointer (some ⟨w0.heap.size, 0, none⟩)] w (DOut w0 (rValue s)) := by
  obtain ⟨i0, hi, y0, y1, y2⟩ := info_parts info_str
  have HS := Lib.hid (signed_four w0 w s (by unfold droom at hl; omega) h)
  have HSR := Lib.hid (fun n s' => signed_room (k := 4) (s := s) (n := n) (s' := s'))
  unfold rValue
  generalize rSigned 4 s = R at HS HSR ⊢
  clear h
  cases R with
  | none =>
    go_enter Tryd.func45, Tryd.ntmps45
    go_wp2_with fail
    refine HS.out.mono ?_; rintro e w1 (⟨_, _, h, _⟩ | ⟨_, rfl, hB⟩)
    · cases h
    · go_wp2_with fail
      exact ⟨rfl, .inr ⟨rfl, rfl, hB⟩⟩
  | some p =>
    obtain ⟨n, s1⟩ := p
    have hr1 := (HSR.out n s1 rfl).2
    have hl1 : droom s1 ≤ 900000 := by omega
    have hN1 : s1.N.length ≤ 1000000 := by unfold droom at hl1; omega
    obtain ⟨RT, hRT⟩ : ∃ RT, RT = (some (n, s1)).bind fun p => if -1 ≤ p.1 ∧ p.1 ≤ 10000 then (if p.1 < 0 then some (rKeep p.1 p.2) else rRaw p.1 (rKeep p.1 p.2)) else none := ⟨_, rfl⟩
    rw [← hRT]
    simp only [Option.bind_some] at hRT
    clear hr1 HSR
    by_cases hrg : -1 ≤ n ∧ n ≤ 10000
    · rw [if_pos hrg] at hRT
      have HRT := Lib.hid hRT
      obtain ⟨hg1, hg2⟩ := hrg
      clear hRT
      go_enter Tryd.func45, Tryd.ntmps45
      go_wp2_with fail
      refine HS.out.mono ?_; rintro e w1 (⟨n', s1', h, rfl, hI⟩ | ⟨h, _, _⟩)
      case inr => cases h
      obtain ⟨rfl, rfl⟩ := Prod.mk.inj (Option.some.inj h)
      have HI := Lib.hid hI
      clear hI h
      go_wp2_with fail
      refine (demand_ok _).mono ?_; rintro e w2 ⟨rfl, rfl⟩
      go_wp2_with fail
      refine (keep_any w0 _ s1 n hN1 HI.out).mono ?_; rintro e w3 (⟨s2, h2, rfl, hI⟩ | ⟨h2, _, _⟩)
      case inr => cases h2
      obtain rfl := Option.some.inj h2
      have HI3 := Lib.hid hI
      have hk := keep_room n s1
      have hl2 : droom (rKeep n s1) ≤ 900001 := by omega
      clear hI h2 hk
      by_cases hn : n < 0
      · have hn' : ¬ 0 ≤ n := by omega
        have HZ := Lib.hid (HRT.out.trans (if_pos hn))
        go_wp2_with fail
        go_end0
        exact .inl ⟨_, HZ.out, rfl, HI3.out⟩
      · have hn' : 0 ≤ n := by omega
        have HZ := Lib.hid (HRT.out.trans (if_neg hn))
        obtain ⟨m, rfl⟩ := Int.eq_ofNat_of_zero_le hn'
        have HZ := Lib.hid (show RT = (rTake m (rKeep (m : Int) s1)).map fun p => { p.2 with T := p.2.T ++ [p.1] } from HZ.out)
        generalize rKeep (m : Int) s1 = s2 at HI3 hl2 HZ
        obtain ⟨tv, nv, hD⟩ := HI3.out
        have hSl : s2.S.length ≤ 1000000 := by unfold droom at hl2; omega
        have hTl : s2.T.length ≤ 1000000 := by unfold droom at hl2; omega
        have HD := Lib.hid hD
        clear hD hn
        cases hx : rTake m s2 with
        | none =>
          have HTN := Lib.hid (fun W (hD : DAt w0 W s2 tv nv) => take_no hx hSl hD)
          have HZ := Lib.hid (show RT = none by rw [HZ.out, hx]; rfl)
          have c1 := HD.out.c1
          obtain ⟨a, c, rfl⟩ := ownsRow_form HD.out.texts
          clear hx
          go_upto_region 4 with (fail)
          go_region_law (go_simp; go_at_call 63; refine (HTN.out _ HD.out.drew).mono ?_; rintro e w5 ⟨rfl, hB⟩; (refine (fun (_ : wpAny Tryd.prog .any #[] (fun _ _ _ => True) 0 #[] { tmps := #[], defers := [] } w5) => ⟨rfl, .inr ⟨HZ.out, rfl, hB⟩⟩) ?_))
          all_goals trivial
        | some p =>
          obtain ⟨t, s3⟩ := p
          have HTK := Lib.hid (fun W (hD : DAt w0 W s2 tv nv) => take_is hx hSl hD)
          have HZ := Lib.hid (show RT = some { s3 with T := s3.T ++ [t] } by rw [HZ.out, hx]; rfl)
          have hT3 : s3.T.length = s2.T.length := by rw [(take_out hx).2.2.1]
          have c1 := HD.out.c1
          obtain ⟨a, c, rfl⟩ := ownsRow_form HD.out.texts
          obtain ⟨TL, hTL⟩ : ∃ TL : Nat, TL = s3.T.length := ⟨_, rfl⟩
          have HTL := Lib.hid hTL
          rw [← hT3, ← hTL] at HTK HD c1 hTl
          clear hTL hx hT3
          go_upto_region 4 with (fail)
          go_region_law (first | (go_simp; go_at_call 63; refine (HTK.out _ HD.out.drew).mono ?_; rintro e w5 ⟨rfl, hW5⟩; have HW5 := Lib.hid hW5; have d1 := hW5.c1; have g1 := hW5.f1; have z5 := hW5.lt; clear hW5) | (refine step_append_own rfl (.tmp 21) (.tmp 25) 25 rfl (w0.heap.size + 1) 9 i0 (.string { data := #[] }) 1 16 Tryd.underlying25 hi y0 y1 y2 rfl (by decide) (.slice a TL c) TL (tcells s3.T) (by simp [Act.eval]) (by have := HW5.out.texts.alloc (.cells #[.string ⟨t.toArray⟩] 9); rw [← HTL.out] at this; exact this) ⟨w5.heap.size, 0, none⟩ 1 1 [.string ⟨t.toArray⟩] (by simp [Act.eval]) rfl ?c1 ?c2 ?c3 ?c4 ?c5 ?_; (case c1 => (intro j u h; rw [Go.WideShapes.add_plain, Nat.zero_add, ← h]; exact (World.cell?_alloc_new w5 _ _ j).trans (by simp))); (case c2 => (intro u hu; simp at hu; rcases hu with rfl; rfl)); (case c3 => (unfold maxLen; omega)); (case c4 => omega); (case c5 => (first | omega | (simp; omega))); intro v' w6 hO6 hg6; obtain ⟨a', c', rfl⟩ := ownsRow_form hO6; have HB6 := Lib.hid (HW5.out.grewT hg6); obtain ⟨_, ⟨e2, g2⟩, hz6⟩ := HW5.out.afterN HB6.out; have HP6 := Lib.hid (HW5.out.put1 (T := s3.T ++ [t]) HB6.out (by rw [tcells_append, List.length_append, ← HTL.out]; exact hO6) (HW5.out.rowN hg6)); clear hO6 hg6))
          all_goals
            go_wp2_with fail
            go_end0
            exact .inl ⟨_, HZ.out, rfl, _, _, HP6.out⟩
    · rw [if_neg hrg] at hRT
      have HRT := Lib.hid hRT
      clear hRT
      by_cases h1 : -1 ≤ n
      · have h2 : 10000 < n := by omega
        have h3 : ¬ n ≤ 10000 := by omega
        have h4 : decide (n ≤ 10000) = false := decide_eq_false h3
        clear hrg
        go_enter Tryd.func45, Tryd.ntmps45
        go_wp2_with fail
        refine HS.out.mono ?_; rintro e w1 (⟨n', s1', h, rfl, hI⟩ | ⟨h, _, _⟩)
        case inr => cases h
        obtain ⟨rfl, rfl⟩ := Prod.mk.inj (Option.some.inj h)
        have HI := Lib.hid hI
        clear hI h
        go_wp2_with fail
        refine (demand_no _).mono ?_; rintro e w2 ⟨rfl, rfl⟩
        go_wp2_with fail
        obtain ⟨_, _, hD⟩ := HI.out
        exact ⟨rfl, .inr ⟨HRT.out, rfl, hD.below⟩⟩
      · have h4 : decide (-1 ≤ n) = false := decide_eq_false h1
        clear hrg
        go_enter Tryd.func45, Tryd.ntmps45
        go_wp2_with fail
        refine HS.out.mono ?_; rintro e w1 (⟨n', s1', h, rfl, hI⟩ | ⟨h, _, _⟩)
        case inr => cases h
        obtain ⟨rfl, rfl⟩ := Prod.mk.inj (Option.some.inj h)
        have HI := Lib.hid hI
        clear hI h
        go_wp2_with fail
        refine (demand_no _).mono ?_; rintro e w2 ⟨rfl, rfl⟩
        go_wp2_with fail
        obtain ⟨_, _, hD⟩ := HI.out
        exact ⟨rfl, .inr ⟨HRT.out, rfl, hD.below⟩⟩
end Go.Proofs.YtfdffiphlpeegaaDoor

namespace Go.Proofs.YtfdffiphlpeegaaDoor
open Go.RowKit Go.Lib Go.WideShapes

set_option maxRecDepth 100000 in
set_option maxHeartbeats 8000000 in
theorem counted_short_r (w0 w : World) (s : RS) (f : RS → Option RS) (hf : ∀ W s, droom s ≤ 900000 → IsD w0 W s → Calls Tryd.prog 44 #[.pointer (some ⟨w0.heap.size, 0, none⟩)] W (DOut w0 (f s))) (hfr : Nar f) (hr : droom s ≤ 850000) (h : IsD w0 w s) :
    Calls Tryd.prog 43 #[.pointer (some ⟨w0.heap.size, 0, none⟩), .func (.func 44) #[.pointer (some ⟨w0.heap.size, 0, none⟩)] #[]] w (DOut w0 (rCounted f s)) := by
  have HS := Lib.hid (signed_two w0 w s (by unfold droom at hr; omega) h)
  have HSR := Lib.hid (fun n s' => signed_room (k := 2) (s := s) (n := n) (s' := s'))
  have HF := Lib.hid hf; have HFR := Lib.hid hfr
  clear h hf hfr
  obtain ⟨R, hR⟩ : ∃ R, R = rCounted f s := ⟨_, rfl⟩
  rw [← hR]
  unfold rCounted at hR
  generalize rSigned 2 s = r at HS HSR hR
  have HR := Lib.hid hR
  clear hR
  cases r with
  | none =>
    go_enter Tryd.func43, Tryd.ntmps43
    go_wp2_with fail
    refine HS.out.mono ?_; rintro e w1 (⟨_, _, h, _⟩ | ⟨_, rfl, hB⟩)
    · cases h
    · go_wp2_with fail
      exact ⟨rfl, .inr ⟨HR.out, rfl, hB⟩⟩
  | some p =>
    obtain ⟨n, s1⟩ := p
    have hr1 := (HSR.out n s1 rfl).2
    have hd1 : droom s1 ≤ 850000 := by omega
    have hN1 : s1.N.length ≤ 1000000 := by unfold droom at hd1; omega
    have HR := Lib.hid (show R = if 0 ≤ n ∧ n ≤ 100 then rRep n.toNat f (rKeep n s1) else none from HR.out)
    have hk := keep_room n s1
    have hd2 : droom (rKeep n s1) ≤ 850001 := by omega
    clear hk hr1 HSR
    by_cases hrg : 0 ≤ n ∧ n ≤ 100
    · have HR := Lib.hid (HR.out.trans (if_pos hrg))
      obtain ⟨hg1, hg2⟩ := hrg
      obtain ⟨m, rfl⟩ := Int.eq_ofNat_of_zero_le hg1
      rw [Int.toNat_natCast] at HR
      go_enter Tryd.func43, Tryd.ntmps43
      go_wp2_with fail
      refine HS.out.mono ?_; rintro e w1 (⟨n', s1', h, rfl, hI⟩ | ⟨h, _, _⟩)
      case inr => cases h
      obtain ⟨rfl, rfl⟩ := Prod.mk.inj (Option.some.inj h)
      have HI := Lib.hid hI
      clear hI h
      go_wp2_with fail
      refine (demand_ok _).mono ?_; rintro e w2 ⟨rfl, rfl⟩
      go_wp2_with fail
      refine (keep_any w0 _ s1 m hN1 HI.out).mono ?_; rintro e w3 (⟨s2, h2, rfl, hI⟩ | ⟨h2, _, _⟩)
      case inr => cases h2
      obtain rfl := Option.some.inj h2
      generalize rKeep (m : Int) s1 = s2 at hI HR hd2
      have HI3 := Lib.hid hI
      clear hI h2
      go_wp2_with fail
      go_loopg [18] m (fun g i wr => ∃ (j : Nat) (x : RS), i = .int .i64 j ∧ j ≤ m ∧ g = m - j ∧ rRep j f s2 = some x ∧ droom x ≤ 850001 ∧ IsD w0 wr x)
      case atStart => exact ⟨0, s2, rfl, Nat.zero_le _, rfl, rfl, hd2, HI3.out⟩
      case round =>
        obtain ⟨j, x, rfl, hj, hg, hrep, hr2, hW2⟩ := hrel
        have HREP := Lib.hid hrep; have HW2 := Lib.hid hW2; have HG := Lib.hid hg
        clear hrep hW2 hg
        by_cases hlt : j < m
        · have hlt' : (j : Int) < m := by omega
          go_wp2_with fail
          refine (HF.out wr x (by omega) HW2.out).mono ?_; rintro e w4 (⟨s3, hs3, rfl, hW3⟩ | ⟨hs3, rfl, hB⟩)
          · have HW3 := Lib.hid hW3
            have HN3 := Lib.hid (rrep_next HREP.out hs3)
            have hr3 : droom s3 ≤ 850001 := Nat.le_trans (HFR.out _ _ hs3) hr2
            clear hW3 hs3
            go_wp2_with fail
            go_roundg (m - (j + 1))
            case measure => have := HG.out; omega
            case rel => exact ⟨j + 1, s3, by go_num, by omega, rfl, HN3.out, hr3, HW3.out⟩
          · have HN3 := Lib.hid (rrep_fail HREP.out hs3 hlt)
            clear hs3
            go_wp2_with fail
            exact ⟨rfl, .inr ⟨HR.out.trans HN3.out, rfl, hB⟩⟩
        · obtain rfl : j = m := by omega
          go_wp2_with fail
          go_end0
          exact .inl ⟨x, HR.out.trans HREP.out, rfl, HW2.out⟩
    · have HR := Lib.hid (HR.out.trans (if_neg hrg))
      by_cases h1 : 0 ≤ n
      · have h4 : decide (n ≤ 100) = false := decide_eq_false (by omega)
        have h5 : ¬ n ≤ 100 := by omega
        clear hrg
        go_enter Tryd.func43, Tryd.ntmps43
        go_wp2_with fail
        refine HS.out.mono ?_; rintro e w1 (⟨n', s1', h, rfl, hI⟩ | ⟨h, _, _⟩)
        case inr => cases h
        obtain ⟨rfl, rfl⟩ := Prod.mk.inj (Option.some.inj h)
        have HI := Lib.hid hI
        clear hI h
        go_wp2_with fail
        refine (demand_no _).mono ?_; rintro e w2 ⟨rfl, rfl⟩
        go_wp2_with fail
        obtain ⟨_, _, hD⟩ := HI.out
        exact ⟨rfl, .inr ⟨HR.out, rfl, hD.below⟩⟩
      · have h4 : decide (0 ≤ n) = false := decide_eq_false h1
        clear hrg
        go_enter Tryd.func43, Tryd.ntmps43
        go_wp2_with fail
        refine HS.out.mono ?_; rintro e w1 (⟨n', s1', h, rfl, hI⟩ | ⟨h, _, _⟩)
        case inr => cases h
        obtain ⟨rfl, rfl⟩ := Prod.mk.inj (Option.some.inj h)
        have HI := Lib.hid hI
        clear hI h
        go_wp2_with fail
        refine (demand_no _).mono ?_; rintro e w2 ⟨rfl, rfl⟩
        go_wp2_with fail
        obtain ⟨_, _, hD⟩ := HI.out
        exact ⟨rfl, .inr ⟨HR.out, rfl, hD.below⟩⟩

set_option maxRecDepth 100000 in
set_option maxHeartbeats 8000000 in
theorem counted_long_r (w0 w : World) (s : RS) (f : RS → Option RS) (hf : ∀ W s, droom s ≤ 900000 → IsD w0 W s → Calls Tryd.prog 40 #[.pointer (some ⟨w0.heap.size, 0, none⟩)] W (DOut w0 (f s))) (hfr : Nar f) (hr : droom s ≤ 850000) (h : IsD w0 w s) :
    Calls Tryd.prog 43 #[.pointer (some ⟨w0.heap.size, 0, none⟩), .func (.func 40) #[.pointer (some ⟨w0.heap.size, 0, none⟩)] #[]] w (DOut w0 (rCounted f s)) := by
  have HS := Lib.hid (signed_two w0 w s (by unfold droom at hr; omega) h)
  have HSR := Lib.hid (fun n s' => signed_room (k := 2) (s := s) (n := n) (s' := s'))
  have HF := Lib.hid hf; have HFR := Lib.hid hfr
  clear h hf hfr
  obtain ⟨R, hR⟩ : ∃ R, R = rCounted f s := ⟨_, rfl⟩
  rw [← hR]
  unfold rCounted at hR
  generalize rSigned 2 s = r at HS HSR hR
  have HR := Lib.hid hR
  clear hR
  cases r with
  | none =>
    go_enter Tryd.func43, Tryd.ntmps43
    go_wp2_with fail
    refine HS.out.mono ?_; rintro e w1 (⟨_, _, h, _⟩ | ⟨_, rfl, hB⟩)
    · cases h
    · go_wp2_with fail
      exact ⟨rfl, .inr ⟨HR.out, rfl, hB⟩⟩
  | some p =>
    obtain ⟨n, s1⟩ := p
    have hr1 := (HSR.out n s1 rfl).2
    have hd1 : droom s1 ≤ 850000 := by omega
    have hN1 : s1.N.length ≤ 1000000 := by unfold droom at hd1; omega
    have HR := Lib.hid (show R = if 0 ≤ n ∧ n ≤ 100 then rRep n.toNat f (rKeep n s1) else none from HR.out)
    have hk := keep_room n s1
    have hd2 : droom (rKeep n s1) ≤ 850001 := by omega
    clear hk hr1 HSR
    by_cases hrg : 0 ≤ n ∧ n ≤ 100
    · have HR := Lib.hid (HR.out.trans (if_pos hrg))
      obtain ⟨hg1, hg2⟩ := hrg
      obtain ⟨m, rfl⟩ := Int.eq_ofNat_of_zero_le hg1
      rw [Int.toNat_natCast] at HR
      go_enter Tryd.func43, Tryd.ntmps43
      go_wp2_with fail
      refine HS.out.mono ?_; rintro e w1 (⟨n', s1', h, rfl, hI⟩ | ⟨h, _, _⟩)
      case inr => cases h
      obtain ⟨rfl, rfl⟩ := Prod.mk.inj (Option.some.inj h)
      have HI := Lib.hid hI
      clear hI h
      go_wp2_with fail
      refine (demand_ok _).mono ?_; rintro e w2 ⟨rfl, rfl⟩
      go_wp2_with fail
      refine (keep_any w0 _ s1 m hN1 HI.out).mono ?_; rintro e w3 (⟨s2, h2, rfl, hI⟩ | ⟨h2, _, _⟩)
      case inr => cases h2
      obtain rfl := Option.some.inj h2
      generalize rKeep (m : Int) s1 = s2 at hI HR hd2
      have HI3 := Lib.hid hI
      clear hI h2
      go_wp2_with fail
      go_loopg [18] m (fun g i wr => ∃ (j : Nat) (x : RS), i = .int .i64 j ∧ j ≤ m ∧ g = m - j ∧ rRep j f s2 = some x ∧ droom x ≤ 850001 ∧ IsD w0 wr x)
      case atStart => exact ⟨0, s2, rfl, Nat.zero_le _, rfl, rfl, hd2, HI3.out⟩
      case round =>
        obtain ⟨j, x, rfl, hj, hg, hrep, hr2, hW2⟩ := hrel
        have HREP := Lib.hid hrep; have HW2 := Lib.hid hW2; have HG := Lib.hid hg
        clear hrep hW2 hg
        by_cases hlt : j < m
        · have hlt' : (j : Int) < m := by omega
          go_wp2_with fail
          refine (HF.out wr x (by omega) HW2.out).mono ?_; rintro e w4 (⟨s3, hs3, rfl, hW3⟩ | ⟨hs3, rfl, hB⟩)
          · have HW3 := Lib.hid hW3
            have HN3 := Lib.hid (rrep_next HREP.out hs3)
            have hr3 : droom s3 ≤ 850001 := Nat.le_trans (HFR.out _ _ hs3) hr2
            clear hW3 hs3
            go_wp2_with fail
            go_roundg (m - (j + 1))
            case measure => have := HG.out; omega
            case rel => exact ⟨j + 1, s3, by go_num, by omega, rfl, HN3.out, hr3, HW3.out⟩
          · have HN3 := Lib.hid (rrep_fail HREP.out hs3 hlt)
            clear hs3
            go_wp2_with fail
            exact ⟨rfl, .inr ⟨HR.out.trans HN3.out, rfl, hB⟩⟩
        · obtain rfl : j = m := by omega
          go_wp2_with fail
          go_end0
          exact .inl ⟨x, HR.out.trans HREP.out, rfl, HW2.out⟩
    · have HR := Lib.hid (HR.out.trans (if_neg hrg))
      by_cases h1 : 0 ≤ n
      · have h4 : decide (n ≤ 100) = false := decide_eq_false (by omega)
        have h5 : ¬ n ≤ 100 := by omega
        clear hrg
        go_enter Tryd.func43, Tryd.ntmps43
        go_wp2_with fail
        refine HS.out.mono ?_; rintro e w1 (⟨n', s1', h, rfl, hI⟩ | ⟨h, _, _⟩)
        case inr => cases h
        obtain ⟨rfl, rfl⟩ := Prod.mk.inj (Option.some.inj h)
        have HI := Lib.hid hI
        clear hI h
        go_wp2_with fail
        refine (demand_no _).mono ?_; rintro e w2 ⟨rfl, rfl⟩
        go_wp2_with fail
        obtain ⟨_, _, hD⟩ := HI.out
        exact ⟨rfl, .inr ⟨HR.out, rfl, hD.below⟩⟩
      · have h4 : decide (0 ≤ n) = false := decide_eq_false h1
        clear hrg
        go_enter Tryd.func43, Tryd.ntmps43
        go_wp2_with fail
        refine HS.out.mono ?_; rintro e w1 (⟨n', s1', h, rfl, hI⟩ | ⟨h, _, _⟩)
        case inr => cases h
        obtain ⟨rfl, rfl⟩ := Prod.mk.inj (Option.some.inj h)
        have HI := Lib.hid hI
        clear hI h
        go_wp2_with fail
        refine (demand_no _).mono ?_; rintro e w2 ⟨rfl, rfl⟩
        go_wp2_with fail
        obtain ⟨_, _, hD⟩ := HI.out
        exact ⟨rfl, .inr ⟨HR.out, rfl, hD.below⟩⟩

set_option maxRecDepth 100000 in
set_option maxHeartbeats 8000000 in
theorem counted_value_r (w0 w : World) (s : RS) (f : RS → Option RS) (hf : ∀ W s, droom s ≤ 900000 → IsD w0 W s → Calls Tryd.prog 45 #[.pointer (some ⟨w0.heap.size, 0, none⟩)] W (DOut w0 (f s))) (hfr : Nar f) (hr : droom s ≤ 850000) (h : IsD w0 w s) :
    Calls Tryd.prog 43 #[.pointer (some ⟨w0.heap.size, 0, none⟩), .func (.func 45) #[.pointer (some ⟨w0.heap.size, 0, none⟩)] #[]] w (DOut w0 (rCounted f s)) := by
  have HS := Lib.hid (signed_two w0 w s (by unfold droom at hr; omega) h)
  have HSR := Lib.hid (fun n s' => signed_room (k := 2) (s := s) (n := n) (s' := s'))
  have HF := Lib.hid hf; have HFR := Lib.hid hfr
  clear h hf hfr
  obtain ⟨R, hR⟩ : ∃ R, R = rCounted f s := ⟨_, rfl⟩
  rw [← hR]
  unfold rCounted at hR
  generalize rSigned 2 s = r at HS HSR hR
  have HR := Lib.hid hR
  clear hR
  cases r with
  | none =>
    go_enter Tryd.func43, Tryd.ntmps43
    go_wp2_with fail
    refine HS.out.mono ?_; rintro e w1 (⟨_, _, h, _⟩ | ⟨_, rfl, hB⟩)
    · cases h
    · go_wp2_with fail
      exact ⟨rfl, .inr ⟨HR.out, rfl, hB⟩⟩
  | some p =>
    obtain ⟨n, s1⟩ := p
    have hr1 := (HSR.out n s1 rfl).2
    have hd1 : droom s1 ≤ 850000 := by omega
    have hN1 : s1.N.length ≤ 1000000 := by unfold droom at hd1; omega
    have HR := Lib.hid (show R = if 0 ≤ n ∧ n ≤ 100 then rRep n.toNat f (rKeep n s1) else none from HR.out)
    have hk := keep_room n s1
    have hd2 : droom (rKeep n s1) ≤ 850001 := by omega
    clear hk hr1 HSR
    by_cases hrg : 0 ≤ n ∧ n ≤ 100
    · have HR := Lib.hid (HR.out.trans (if_pos hrg))
      obtain ⟨hg1, hg2⟩ := hrg
      obtain ⟨m, rfl⟩ := Int.eq_ofNat_of_zero_le hg1
      rw [Int.toNat_natCast] at HR
      go_enter Tryd.func43, Tryd.ntmps43
      go_wp2_with fail
      refine HS.out.mono ?_; rintro e w1 (⟨n', s1', h, rfl, hI⟩ | ⟨h, _, _⟩)
      case inr => cases h
      obtain ⟨rfl, rfl⟩ := Prod.mk.inj (Option.some.inj h)
      have HI := Lib.hid hI
      clear hI h
      go_wp2_with fail
      refine (demand_ok _).mono ?_; rintro e w2 ⟨rfl, rfl⟩
      go_wp2_with fail
      refine (keep_any w0 _ s1 m hN1 HI.out).mono ?_; rintro e w3 (⟨s2, h2, rfl, hI⟩ | ⟨h2, _, _⟩)
      case inr => cases h2
      obtain rfl := Option.some.inj h2
      generalize rKeep (m : Int) s1 = s2 at hI HR hd2
      have HI3 := Lib.hid hI
      clear hI h2
      go_wp2_with fail
      go_loopg [18] m (fun g i wr => ∃ (j : Nat) (x : RS), i = .int .i64 j ∧ j ≤ m ∧ g = m - j ∧ rRep j f s2 = some x ∧ droom x ≤ 850001 ∧ IsD w0 wr x)
      case atStart => exact ⟨0, s2, rfl, Nat.zero_le _, rfl, rfl, hd2, HI3.out⟩
      case round =>
        obtain ⟨j, x, rfl, hj, hg, hrep, hr2, hW2⟩ := hrel
        have HREP := Lib.hid hrep; have HW2 := Lib.hid hW2; have HG := Lib.hid hg
        clear hrep hW2 hg
        by_cases hlt : j < m
        · have hlt' : (j : Int) < m := by omega
          go_wp2_with fail
          refine (HF.out wr x (by omega) HW2.out).mono ?_; rintro e w4 (⟨s3, hs3, rfl, hW3⟩ | ⟨hs3, rfl, hB⟩)
          · have HW3 := Lib.hid hW3
            have HN3 := Lib.hid (rrep_next HREP.out hs3)
            have hr3 : droom s3 ≤ 850001 := Nat.le_trans (HFR.out _ _ hs3) hr2
            clear hW3 hs3
            go_wp2_with fail
            go_roundg (m - (j + 1))
            case measure => have := HG.out; omega
            case rel => exact ⟨j + 1, s3, by go_num, by omega, rfl, HN3.out, hr3, HW3.out⟩
          · have HN3 := Lib.hid (rrep_fail HREP.out hs3 hlt)
            clear hs3
            go_wp2_with fail
            exact ⟨rfl, .inr ⟨HR.out.trans HN3.out, rfl, hB⟩⟩
        · obtain rfl : j = m := by omega
          go_wp2_with fail
          go_end0
          exact .inl ⟨x, HR.out.trans HREP.out, rfl, HW2.out⟩
    · have HR := Lib.hid (HR.out.trans (if_neg hrg))
      by_cases h1 : 0 ≤ n
      · have h4 : decide (n ≤ 100) = false := decide_eq_false (by omega)
        have h5 : ¬ n ≤ 100 := by omega
        clear hrg
        go_enter Tryd.func43, Tryd.ntmps43
        go_wp2_with fail
        refine HS.out.mono ?_; rintro e w1 (⟨n', s1', h, rfl, hI⟩ | ⟨h, _, _⟩)
        case inr => cases h
        obtain ⟨rfl, rfl⟩ := Prod.mk.inj (Option.some.inj h)
        have HI := Lib.hid hI
        clear hI h
        go_wp2_with fail
        refine (demand_no _).mono ?_; rintro e w2 ⟨rfl, rfl⟩
        go_wp2_with fail
        obtain ⟨_, _, hD⟩ := HI.out
        exact ⟨rfl, .inr ⟨HR.out, rfl, hD.below⟩⟩
      · have h4 : decide (0 ≤ n) = false := decide_eq_false h1
        clear hrg
        go_enter Tryd.func43, Tryd.ntmps43
        go_wp2_with fail
        refine HS.out.mono ?_; rintro e w1 (⟨n', s1', h, rfl, hI⟩ | ⟨h, _, _⟩)
        case inr => cases h
        obtain ⟨rfl, rfl⟩ := Prod.mk.inj (Option.some.inj h)
        have HI := Lib.hid hI
        clear hI h
        go_wp2_with fail
        refine (demand_no _).mono ?_; rintro e w2 ⟨rfl, rfl⟩
        go_wp2_with fail
        obtain ⟨_, _, hD⟩ := HI.out
        exact ⟨rfl, .inr ⟨HR.out, rfl, hD.below⟩⟩

set_option maxRecDepth 100000 in
set_option maxHeartbeats 8000000 in
theorem counted_name_r (w0 w : World) (s : RS) (f : RS → Option RS) (hf : ∀ W s, droom s ≤ 900000 → IsD w0 W s → Calls Tryd.prog 46 #[.pointer (some ⟨w0.heap.size, 0, none⟩)] W (DOut w0 (f s))) (hfr : Nar f) (hr : droom s ≤ 850000) (h : IsD w0 w s) :
    Calls Tryd.prog 43 #[.pointer (some ⟨w0.heap.size, 0, none⟩), .func (.func 46) #[.pointer (some ⟨w0.heap.size, 0, none⟩)] #[]] w (DOut w0 (rCounted f s)) := by
  have HS := Lib.hid (signed_two w0 w s (by unfold droom at hr; omega) h)
  have HSR := Lib.hid (fun n s' => signed_room (k := 2) (s := s) (n := n) (s' := s'))
  have HF := Lib.hid hf; have HFR := Lib.hid hfr
  clear h hf hfr
  obtain ⟨R, hR⟩ : ∃ R, R = rCounted f s := ⟨_, rfl⟩
  rw [← hR]
  unfold rCounted at hR
  generalize rSigned 2 s = r at HS HSR hR
  have HR := Lib.hid hR
  clear hR
  cases r with
  | none =>
    go_enter Tryd.func43, Tryd.ntmps43
    go_wp2_with fail
    refine HS.out.mono ?_; rintro e w1 (⟨_, _, h, _⟩ | ⟨_, rfl, hB⟩)
    · cases h
    · go_wp2_with fail
      exact ⟨rfl, .inr ⟨HR.out, rfl, hB⟩⟩
  | some p =>
    obtain ⟨n, s1⟩ := p
    have hr1 := (HSR.out n s1 rfl).2
    have hd1 : droom s1 ≤ 850000 := by omega
    have hN1 : s1.N.length ≤ 1000000 := by unfold droom at hd1; omega
    have HR := Lib.hid (show R = if 0 ≤ n ∧ n ≤ 100 then rRep n.toNat f (rKeep n s1) else none from HR.out)
    have hk := keep_room n s1
    have hd2 : droom (rKeep n s1) ≤ 850001 := by omega
    clear hk hr1 HSR
    by_cases hrg : 0 ≤ n ∧ n ≤ 100
    · have HR := Lib.hid (HR.out.trans (if_pos hrg))
      obtain ⟨hg1, hg2⟩ := hrg
      obtain ⟨m, rfl⟩ := Int.eq_ofNat_of_zero_le hg1
      rw [Int.toNat_natCast] at HR
      go_enter Tryd.func43, Tryd.ntmps43
      go_wp2_with fail
      refine HS.out.mono ?_; rintro e w1 (⟨n', s1', h, rfl, hI⟩ | ⟨h, _, _⟩)
      case inr => cases h
      obtain ⟨rfl, rfl⟩ := Prod.mk.inj (Option.some.inj h)
      have HI := Lib.hid hI
      clear hI h
      go_wp2_with fail
      refine (demand_ok _).mono ?_; rintro e w2 ⟨rfl, rfl⟩
      go_wp2_with fail
      refine (keep_any w0 _ s1 m hN1 HI.out).mono ?_; rintro e w3 (⟨s2, h2, rfl, hI⟩ | ⟨h2, _, _⟩)
      case inr => cases h2
      obtain rfl := Option.some.inj h2
      generalize rKeep (m : Int) s1 = s2 at hI HR hd2
      have HI3 := Lib.hid hI
      clear hI h2
      go_wp2_with fail
      go_loopg [18] m (fun g i wr => ∃ (j : Nat) (x : RS), i = .int .i64 j ∧ j ≤ m ∧ g = m - j ∧ rRep j f s2 = some x ∧ droom x ≤ 850001 ∧ IsD w0 wr x)
      case atStart => exact ⟨0, s2, rfl, Nat.zero_le _, rfl, rfl, hd2, HI3.out⟩
      case round =>
        obtain ⟨j, x, rfl, hj, hg, hrep, hr2, hW2⟩ := hrel
        have HREP := Lib.hid hrep; have HW2 := Lib.hid hW2; have HG := Lib.hid hg
        clear hrep hW2 hg
        by_cases hlt : j < m
        · have hlt' : (j : Int) < m := by omega
          go_wp2_with fail
          refine (HF.out wr x (by omega) HW2.out).mono ?_; rintro e w4 (⟨s3, hs3, rfl, hW3⟩ | ⟨hs3, rfl, hB⟩)
          · have HW3 := Lib.hid hW3
            have HN3 := Lib.hid (rrep_next HREP.out hs3)
            have hr3 : droom s3 ≤ 850001 := Nat.le_trans (HFR.out _ _ hs3) hr2
            clear hW3 hs3
            go_wp2_with fail
            go_roundg (m - (j + 1))
            case measure => have := HG.out; omega
            case rel => exact ⟨j + 1, s3, by go_num, by omega, rfl, HN3.out, hr3, HW3.out⟩
          · have HN3 := Lib.hid (rrep_fail HREP.out hs3 hlt)
            clear hs3
            go_wp2_with fail
            exact ⟨rfl, .inr ⟨HR.out.trans HN3.out, rfl, hB⟩⟩
        · obtain rfl : j = m := by omega
          go_wp2_with fail
          go_end0
          exact .inl ⟨x, HR.out.trans HREP.out, rfl, HW2.out⟩
    · have HR := Lib.hid (HR.out.trans (if_neg hrg))
      by_cases h1 : 0 ≤ n
      · have h4 : decide (n ≤ 100) = false := decide_eq_false (by omega)
        have h5 : ¬ n ≤ 100 := by omega
        clear hrg
        go_enter Tryd.func43, Tryd.ntmps43
        go_wp2_with fail
        refine HS.out.mono ?_; rintro e w1 (⟨n', s1', h, rfl, hI⟩ | ⟨h, _, _⟩)
        case inr => cases h
        obtain ⟨rfl, rfl⟩ := Prod.mk.inj (Option.some.inj h)
        have HI := Lib.hid hI
        clear hI h
        go_wp2_with fail
        refine (demand_no _).mono ?_; rintro e w2 ⟨rfl, rfl⟩
        go_wp2_with fail
        obtain ⟨_, _, hD⟩ := HI.out
        exact ⟨rfl, .inr ⟨HR.out, rfl, hD.below⟩⟩
      · have h4 : decide (0 ≤ n) = false := decide_eq_false h1
        clear hrg
        go_enter Tryd.func43, Tryd.ntmps43
        go_wp2_with fail
        refine HS.out.mono ?_; rintro e w1 (⟨n', s1', h, rfl, hI⟩ | ⟨h, _, _⟩)
        case inr => cases h
        obtain ⟨rfl, rfl⟩ := Prod.mk.inj (Option.some.inj h)
        have HI := Lib.hid hI
        clear hI h
        go_wp2_with fail
        refine (demand_no _).mono ?_; rintro e w2 ⟨rfl, rfl⟩
        go_wp2_with fail
        obtain ⟨_, _, hD⟩ := HI.out
        exact ⟨rfl, .inr ⟨HR.out, rfl, hD.below⟩⟩
end Go.Proofs.YtfdffiphlpeegaaDoor
