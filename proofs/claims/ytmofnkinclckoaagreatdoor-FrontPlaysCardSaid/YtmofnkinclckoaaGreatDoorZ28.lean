/- Contracts and mathematics: QF. -/
import Derived.Test.YtmofnkinclckoaaGreatDoorZ27
namespace Go.Proofs.YtmofnkinclckoaaGreatDoor
open Go.RowKit Go.Lib Go.WideShapes

theorem qout_of {w0 w' : World} {k : Int} {m : Nat} {r : Option RS} {q : QS} (hI : IsQ w0 w' k q) (hp : qpot q.s ≤ m) (hs : ∀ s1, r = some s1 → q = ⟨s1, false⟩) : QOut w0 k m r (.returned (.tuple #[])) w' := ⟨rfl, q, hI, hp, hs⟩
theorem rCounted_of {f : RS → Option RS} {s s1 : RS} (h : rCounted f s = some s1) : (qKeepNum 2 ⟨s, false⟩).bad = false ∧ rRep (qNum 2 ⟨s, false⟩).1.toNat f (qKeepNum 2 ⟨s, false⟩).s = some s1 := by
  unfold rCounted at h
  cases hx : rSigned 2 s with
  | none => rw [hx] at h; cases h
  | some p =>
    rw [hx] at h
    have h1 : (if 0 ≤ p.1 ∧ p.1 ≤ 100 then rRep p.1.toNat f (rKeep p.1 p.2) else none) = some s1 := h
    obtain ⟨e1, e2⟩ := qNum_signed (bad := false) (by decide) hx
    have hk : qKeepNum 2 ⟨s, false⟩ = ⟨rKeep p.1 p.2, false⟩ := qKeepNum_of (by decide) (by rw [hx]; rfl)
    have hn : (qNum 2 ⟨s, false⟩).1 = p.1 := by rw [e1]
    split at h1
    · rw [hk, hn]; exact ⟨rfl, h1⟩
    · cases h1
theorem rThing_next {c : UInt8} {n : Nat} {q : QS} {s1 : RS} (hb : q.bad = false) (h : rRep (n + 1) (rThing c) q.s = some s1) : (qThing c q).bad = false ∧ rRep n (rThing c) (qThing c q).s = some s1 := by
  obtain ⟨s, b⟩ := q
  obtain rfl : b = false := hb
  have h1 : (rThing c s).bind (rRep n (rThing c)) = some s1 := h
  cases hx : rThing c s with
  | none => rw [hx] at h1; cases h1
  | some s2 =>
    rw [hx] at h1
    rw [qThing_of hx]
    exact ⟨rfl, h1⟩
set_option maxRecDepth 100000 in
set_option maxHeartbeats 8000000 in
theorem qfield_t (w0 w : World) (k : Int) (s : RS) (hr : qpot s ≤ 900000) (h : IsQ w0 w k ⟨s, false⟩) :
    Calls Tryz.prog 40 #[.pointer (some ⟨w0.heap.size, 0, none⟩), .int .u8 115] w (QOut w0 k (qpot s + 2) (rText s)) := by
  refine (qfield_s w0 w k ⟨s, false⟩ (by show qpot s ≤ _; omega) h).mono ?_; rintro e w' ⟨rfl, hI⟩
  refine qout_of hI ?_ (fun s1 h1 => qText_of h1)
  have h1 := qText_pot ⟨s, false⟩
  have h2 : qpot (QS.mk s false).s = qpot s := rfl
  split at h1 <;> omega
set_option maxRecDepth 100000 in
set_option maxHeartbeats 8000000 in
theorem qfield_b (w0 w : World) (k : Int) (s : RS) (hr : qpot s ≤ 900000) (h : IsQ w0 w k ⟨s, false⟩) :
    Calls Tryz.prog 40 #[.pointer (some ⟨w0.heap.size, 0, none⟩), .int .u8 98] w (QOut w0 k (qpot s + 2) (rByte s)) := by
  go_enter Tryz.func40, Tryz.ntmps40
  have HI := Lib.hid h
  clear h
  go_wp2_with fail
  refine (qnum_any w0 w k ⟨s, false⟩ 1 (by decide) (by show qpot s ≤ _; omega) HI.out).mono ?_; rintro e w2 ⟨rfl, hI2⟩
  have hqp : qpot (qNum 1 ⟨s, false⟩).2.s ≤ 900000 := by have := qpot_num 1 ⟨s, false⟩; have h2 : qpot (QS.mk s false).s = qpot s := rfl; omega
  have HI2 := Lib.hid hI2
  clear hI2
  go_wp2_with fail
  refine (qkeep_any w0 w2 k (qNum 1 ⟨s, false⟩).2 (qNum 1 ⟨s, false⟩).1 (by omega) HI2.out).mono ?_; rintro e w3 ⟨rfl, hI3⟩
  have HI3 := Lib.hid hI3
  clear hI3
  go_wp2_with fail
  go_end0
  refine qout_of (q := qKeepNum 1 ⟨s, false⟩) HI3.out ?_ (fun s1 h1 => by
    obtain ⟨e1, e2⟩ := qNum_byte (bad := false) h1
    unfold qKeepNum
    rw [← e1, e2])
  have h1 := qKeepNum_pot (n := 1) (by decide) ⟨s, false⟩
  have h2 : qpot (QS.mk s false).s = qpot s := rfl
  split at h1 <;> omega
set_option maxRecDepth 100000 in
set_option maxHeartbeats 8000000 in
theorem qfield_i (w0 w : World) (k : Int) (s : RS) (hr : qpot s ≤ 900000) (h : IsQ w0 w k ⟨s, false⟩) :
    Calls Tryz.prog 40 #[.pointer (some ⟨w0.heap.size, 0, none⟩), .int .u8 105] w (QOut w0 k (qpot s + 2) (rLong s)) := by
  go_enter Tryz.func40, Tryz.ntmps40
  have HI := Lib.hid h
  clear h
  go_wp2_with fail
  refine (qnum_any w0 w k ⟨s, false⟩ 4 (by decide) (by show qpot s ≤ _; omega) HI.out).mono ?_; rintro e w2 ⟨rfl, hI2⟩
  have hqp : qpot (qNum 4 ⟨s, false⟩).2.s ≤ 900000 := by have := qpot_num 4 ⟨s, false⟩; have h2 : qpot (QS.mk s false).s = qpot s := rfl; omega
  have HI2 := Lib.hid hI2
  clear hI2
  go_wp2_with fail
  refine (qkeep_any w0 w2 k (qNum 4 ⟨s, false⟩).2 (qNum 4 ⟨s, false⟩).1 (by omega) HI2.out).mono ?_; rintro e w3 ⟨rfl, hI3⟩
  have HI3 := Lib.hid hI3
  clear hI3
  go_wp2_with fail
  go_end0
  refine qout_of (q := qKeepNum 4 ⟨s, false⟩) HI3.out ?_ (fun s1 h1 => qKeepNum_of (by decide) h1)
  have h1 := qKeepNum_pot (n := 4) (by decide) ⟨s, false⟩
  have h2 : qpot (QS.mk s false).s = qpot s := rfl
  split at h1 <;> omega
set_option maxRecDepth 100000 in
set_option maxHeartbeats 8000000 in
theorem qfield_p (w0 w : World) (k : Int) (s : RS) (hr : qpot s ≤ 900000) (h : IsQ w0 w k ⟨s, false⟩) :
    Calls Tryz.prog 40 #[.pointer (some ⟨w0.heap.size, 0, none⟩), .int .u8 112] w (QOut w0 k (qpot s + 2) (rPairs s)) := by
  go_enter Tryz.func40, Tryz.ntmps40
  have HI := Lib.hid h
  clear h
  go_wp2_with fail
  refine (qtexts_any w0 w k false s hr HI.out).mono ?_; rintro e w2 ⟨rfl, q', hI, hp, hs⟩
  have HI2 := Lib.hid hI; have HP2 := Lib.hid hp; have HS2 := Lib.hid hs
  clear hI hp hs
  go_wp2_with fail
  go_end0
  exact qout_of HI2.out HP2.out HS2.out
set_option maxRecDepth 100000 in
set_option maxHeartbeats 8000000 in
theorem qfield_f (w0 w : World) (k : Int) (s : RS) (hr : qpot s ≤ 900000) (h : IsQ w0 w k ⟨s, false⟩) :
    Calls Tryz.prog 40 #[.pointer (some ⟨w0.heap.size, 0, none⟩), .int .u8 102] w (QOut w0 k (qpot s + 2) (rFields s)) := by
  go_enter Tryz.func40, Tryz.ntmps40
  have HI := Lib.hid h
  clear h
  go_wp2_with fail
  refine (qtexts_any w0 w k true s hr HI.out).mono ?_; rintro e w2 ⟨rfl, q', hI, hp, hs⟩
  have HI2 := Lib.hid hI; have HP2 := Lib.hid hp; have HS2 := Lib.hid hs
  clear hI hp hs
  go_wp2_with fail
  go_end0
  exact qout_of HI2.out HP2.out HS2.out
set_option maxRecDepth 100000 in
set_option maxHeartbeats 8000000 in
theorem qfield_c (w0 w : World) (k : Int) (s : RS) (hr : qpot s ≤ 900000) (h : IsQ w0 w k ⟨s, false⟩) :
    Calls Tryz.prog 40 #[.pointer (some ⟨w0.heap.size, 0, none⟩), .int .u8 99] w (QOut w0 k (qpot s + 2) (rCounted (rThing 99) s)) := by
  obtain ⟨RR, hRR⟩ : ∃ z, z = rCounted (rThing 99) s := ⟨_, rfl⟩
  rw [← hRR]
  have HRR := Lib.hid hRR
  clear hRR
  go_enter Tryz.func40, Tryz.ntmps40
  have HI := Lib.hid h
  clear h
  go_wp2_with fail
  refine (qnum_any w0 w k ⟨s, false⟩ 2 (by decide) (by show qpot s ≤ _; omega) HI.out).mono ?_; rintro e w2 ⟨rfl, hI2⟩
  have hqp : qpot (qNum 2 ⟨s, false⟩).2.s ≤ 900000 := by have := qpot_num 2 ⟨s, false⟩; have h2 : qpot (QS.mk s false).s = qpot s := rfl; omega
  have hnr := qNum_range (k := 2) (by decide) ⟨s, false⟩
  have HI2 := Lib.hid hI2
  clear hI2
  go_wp2_with fail
  refine (qkeep_any w0 w2 k (qNum 2 ⟨s, false⟩).2 (qNum 2 ⟨s, false⟩).1 (by omega) HI2.out).mono ?_; rintro e w3 ⟨rfl, hI3⟩
  have HC := Lib.hid (show ∀ s1, RR = some s1 → (qKeepNum 2 ⟨s, false⟩).bad = false ∧ rRep (qNum 2 ⟨s, false⟩).1.toNat (rThing 99) (qKeepNum 2 ⟨s, false⟩).s = some s1 from fun s1 h1 => rCounted_of (HRR.out.symm.trans h1))
  have hp0 : qpot (qKeepNum 2 ⟨s, false⟩).s + (if (qKeepNum 2 ⟨s, false⟩).bad then 0 else 1) ≤ qpot s + 1 := by
    have h1 := qpot_num 2 ⟨s, false⟩
    have h2 : qpot (qKeepNum 2 ⟨s, false⟩).s = qpot (qNum 2 ⟨s, false⟩).2.s + 1 := qpot_keep _ _
    have h3 : (qKeepNum 2 ⟨s, false⟩).bad = if s.S.length < 2 then true else false := qNum_bad 2 ⟨s, false⟩
    have h4 : qpot (QS.mk s false).s = qpot s := rfl
    have h5 : (QS.mk s false).s.S.length = s.S.length := rfl
    rw [h3]
    by_cases hl : s.S.length < 2
    · rw [if_pos hl, if_pos rfl]; omega
    · rw [h5, if_neg hl] at h1
      rw [if_neg hl, if_neg (by decide)]; omega
  have hI3' : IsQ w0 w3 k (qKeepNum 2 ⟨s, false⟩) := hI3
  obtain ⟨q0, hq0⟩ : ∃ z, z = qKeepNum 2 ⟨s, false⟩ := ⟨_, rfl⟩
  obtain ⟨n, hn⟩ : ∃ z, z = (qNum 2 ⟨s, false⟩).1 := ⟨_, rfl⟩
  rw [← hq0] at hI3' HC hp0
  rw [← hn] at hnr HC ⊢
  have HP0 := Lib.hid hp0
  have HI3 := Lib.hid hI3'
  clear hI3 hI3' hq0 hn hqp HI2 HI hp0
  go_wp2_with fail
  go_loopw [6] (fun iv wr => ∃ (i : Nat) (q : QS), iv = .int .i64 i ∧ IsQ w0 wr k q ∧ (q.bad = false → qpot q.s ≤ qpot s) ∧ qpot q.s ≤ qpot s + 2 ∧ i ≤ n.toNat ∧ ∀ s1, RR = some s1 → q.bad = false ∧ rRep (n.toNat - i) (rThing 99) q.s = some s1) (fun iv _ => n.toNat - (RowKit.intOf iv).toNat)
  case atStart => exact ⟨0, q0, rfl, HI3.out, fun h => by have := HP0.out; rw [h, if_neg (by decide)] at this; omega, by have := HP0.out; split at this <;> omega, Nat.zero_le _, HC.out⟩
  case round =>
    obtain ⟨i, q, rfl, hI, hg, hp, hi, hs⟩ := hrel
    have HG := Lib.hid hg; have HP := Lib.hid hp; have HS := Lib.hid hs; have HQ := Lib.hid hI
    obtain ⟨tv, nv, hQ⟩ := hI
    have c4 := hQ.cell.2.2.2.2
    clear hg hp hs hQ
    by_cases hlt : (i : Int) < n
    · have hl1 : decide ((i : Int) < n) = true := decide_eq_true hlt
      have HLT := Lib.hid hlt
      have hi9 : i < 4294967297 := by omega
      by_cases hb : q.bad = true
      · have HB := Lib.hid hb
        rw [hb] at c4
        clear hb
        go_wp2_with fail
        go_end0
        exact qout_of HQ.out HP.out (fun s1 h1 => by have := (HS.out s1 h1).1; rw [HB.out] at this; cases this)
      · have hb0 : q.bad = false := by simpa using hb
        have HB := Lib.hid hb0
        rw [hb0] at c4
        clear hb hb0
        go_wp2_with fail
        refine (qitem_c w0 wr k q (by have := HG.out HB.out; omega) HQ.out).mono ?_; rintro e w5 ⟨rfl, hI5⟩
        have HI5 := Lib.hid (show IsQ w0 w5 k (qThing 99 q) from hI5)
        clear hI5 hlt hl1
        go_wp2_with fail
        go_roundw
        case rel =>
          refine ⟨i + 1, qThing 99 q, by go_num, HI5.out, fun h => ?_, ?_, by have := HLT.out; omega, fun s1 h1 => ?_⟩
          · have h1 := qThing_pot 99 q
            rw [h, if_neg (by decide)] at h1
            have := HG.out HB.out; omega
          · have h1 := qThing_pot 99 q
            have := HG.out HB.out
            split at h1 <;> omega
          · obtain ⟨h2, h3⟩ := HS.out s1 h1
            have h4 : n.toNat - i = n.toNat - (i + 1) + 1 := by have := HLT.out; omega
            rw [h4] at h3
            exact rThing_next h2 h3
        case measure => have := HLT.out; first | omega | (simp [RowKit.intOf]; omega)
    · have hl1 : decide ((i : Int) < n) = false := decide_eq_false hlt
      have HLT := Lib.hid hlt
      go_wp2_with fail
      go_end0
      refine qout_of HQ.out HP.out (fun s1 h1 => ?_)
      obtain ⟨h2, h3⟩ := HS.out s1 h1
      have h4 : n.toNat - i = 0 := by have := HLT.out; omega
      rw [h4] at h3
      have h5 : q.s = s1 := Option.some.inj h3
      cases q with | mk a b => rw [← h5, ← h2]
set_option maxRecDepth 100000 in
set_option maxHeartbeats 8000000 in
theorem qfield_l (w0 w : World) (k : Int) (s : RS) (hr : qpot s ≤ 900000) (h : IsQ w0 w k ⟨s, false⟩) :
    Calls Tryz.prog 40 #[.pointer (some ⟨w0.heap.size, 0, none⟩), .int .u8 108] w (QOut w0 k (qpot s + 2) (rCounted (rThing 108) s)) := by
  obtain ⟨RR, hRR⟩ : ∃ z, z = rCounted (rThing 108) s := ⟨_, rfl⟩
  rw [← hRR]
  have HRR := Lib.hid hRR
  clear hRR
  go_enter Tryz.func40, Tryz.ntmps40
  have HI := Lib.hid h
  clear h
  go_wp2_with fail
  refine (qnum_any w0 w k ⟨s, false⟩ 2 (by decide) (by show qpot s ≤ _; omega) HI.out).mono ?_; rintro e w2 ⟨rfl, hI2⟩
  have hqp : qpot (qNum 2 ⟨s, false⟩).2.s ≤ 900000 := by have := qpot_num 2 ⟨s, false⟩; have h2 : qpot (QS.mk s false).s = qpot s := rfl; omega
  have hnr := qNum_range (k := 2) (by decide) ⟨s, false⟩
  have HI2 := Lib.hid hI2
  clear hI2
  go_wp2_with fail
  refine (qkeep_any w0 w2 k (qNum 2 ⟨s, false⟩).2 (qNum 2 ⟨s, false⟩).1 (by omega) HI2.out).mono ?_; rintro e w3 ⟨rfl, hI3⟩
  have HC := Lib.hid (show ∀ s1, RR = some s1 → (qKeepNum 2 ⟨s, false⟩).bad = false ∧ rRep (qNum 2 ⟨s, false⟩).1.toNat (rThing 108) (qKeepNum 2 ⟨s, false⟩).s = some s1 from fun s1 h1 => rCounted_of (HRR.out.symm.trans h1))
  have hp0 : qpot (qKeepNum 2 ⟨s, false⟩).s + (if (qKeepNum 2 ⟨s, false⟩).bad then 0 else 1) ≤ qpot s + 1 := by
    have h1 := qpot_num 2 ⟨s, false⟩
    have h2 : qpot (qKeepNum 2 ⟨s, false⟩).s = qpot (qNum 2 ⟨s, false⟩).2.s + 1 := qpot_keep _ _
    have h3 : (qKeepNum 2 ⟨s, false⟩).bad = if s.S.length < 2 then true else false := qNum_bad 2 ⟨s, false⟩
    have h4 : qpot (QS.mk s false).s = qpot s := rfl
    have h5 : (QS.mk s false).s.S.length = s.S.length := rfl
    rw [h3]
    by_cases hl : s.S.length < 2
    · rw [if_pos hl, if_pos rfl]; omega
    · rw [h5, if_neg hl] at h1
      rw [if_neg hl, if_neg (by decide)]; omega
  have hI3' : IsQ w0 w3 k (qKeepNum 2 ⟨s, false⟩) := hI3
  obtain ⟨q0, hq0⟩ : ∃ z, z = qKeepNum 2 ⟨s, false⟩ := ⟨_, rfl⟩
  obtain ⟨n, hn⟩ : ∃ z, z = (qNum 2 ⟨s, false⟩).1 := ⟨_, rfl⟩
  rw [← hq0] at hI3' HC hp0
  rw [← hn] at hnr HC ⊢
  have HP0 := Lib.hid hp0
  have HI3 := Lib.hid hI3'
  clear hI3 hI3' hq0 hn hqp HI2 HI hp0
  go_wp2_with fail
  go_loopw [6] (fun iv wr => ∃ (i : Nat) (q : QS), iv = .int .i64 i ∧ IsQ w0 wr k q ∧ (q.bad = false → qpot q.s ≤ qpot s) ∧ qpot q.s ≤ qpot s + 2 ∧ i ≤ n.toNat ∧ ∀ s1, RR = some s1 → q.bad = false ∧ rRep (n.toNat - i) (rThing 108) q.s = some s1) (fun iv _ => n.toNat - (RowKit.intOf iv).toNat)
  case atStart => exact ⟨0, q0, rfl, HI3.out, fun h => by have := HP0.out; rw [h, if_neg (by decide)] at this; omega, by have := HP0.out; split at this <;> omega, Nat.zero_le _, HC.out⟩
  case round =>
    obtain ⟨i, q, rfl, hI, hg, hp, hi, hs⟩ := hrel
    have HG := Lib.hid hg; have HP := Lib.hid hp; have HS := Lib.hid hs; have HQ := Lib.hid hI
    obtain ⟨tv, nv, hQ⟩ := hI
    have c4 := hQ.cell.2.2.2.2
    clear hg hp hs hQ
    by_cases hlt : (i : Int) < n
    · have hl1 : decide ((i : Int) < n) = true := decide_eq_true hlt
      have HLT := Lib.hid hlt
      have hi9 : i < 4294967297 := by omega
      by_cases hb : q.bad = true
      · have HB := Lib.hid hb
        rw [hb] at c4
        clear hb
        go_wp2_with fail
        go_end0
        exact qout_of HQ.out HP.out (fun s1 h1 => by have := (HS.out s1 h1).1; rw [HB.out] at this; cases this)
      · have hb0 : q.bad = false := by simpa using hb
        have HB := Lib.hid hb0
        rw [hb0] at c4
        clear hb hb0
        go_wp2_with fail
        refine (qitem_l w0 wr k q (by have := HG.out HB.out; omega) HQ.out).mono ?_; rintro e w5 ⟨rfl, hI5⟩
        have HI5 := Lib.hid (show IsQ w0 w5 k (qThing 108 q) from hI5)
        clear hI5 hlt hl1
        go_wp2_with fail
        go_roundw
        case rel =>
          refine ⟨i + 1, qThing 108 q, by go_num, HI5.out, fun h => ?_, ?_, by have := HLT.out; omega, fun s1 h1 => ?_⟩
          · have h1 := qThing_pot 108 q
            rw [h, if_neg (by decide)] at h1
            have := HG.out HB.out; omega
          · have h1 := qThing_pot 108 q
            have := HG.out HB.out
            split at h1 <;> omega
          · obtain ⟨h2, h3⟩ := HS.out s1 h1
            have h4 : n.toNat - i = n.toNat - (i + 1) + 1 := by have := HLT.out; omega
            rw [h4] at h3
            exact rThing_next h2 h3
        case measure => have := HLT.out; first | omega | (simp [RowKit.intOf]; omega)
    · have hl1 : decide ((i : Int) < n) = false := decide_eq_false hlt
      have HLT := Lib.hid hlt
      go_wp2_with fail
      go_end0
      refine qout_of HQ.out HP.out (fun s1 h1 => ?_)
      obtain ⟨h2, h3⟩ := HS.out s1 h1
      have h4 : n.toNat - i = 0 := by have := HLT.out; omega
      rw [h4] at h3
      have h5 : q.s = s1 := Option.some.inj h3
      cases q with | mk a b => rw [← h5, ← h2]
set_option maxRecDepth 100000 in
set_option maxHeartbeats 8000000 in
theorem qfield_m (w0 w : World) (k : Int) (s : RS) (hr : qpot s ≤ 900000) (h : IsQ w0 w k ⟨s, false⟩) :
    Calls Tryz.prog 40 #[.pointer (some ⟨w0.heap.size, 0, none⟩), .int .u8 109] w (QOut w0 k (qpot s + 2) (rCounted (rThing 109) s)) := by
  obtain ⟨RR, hRR⟩ : ∃ z, z = rCounted (rThing 109) s := ⟨_, rfl⟩
  rw [← hRR]
  have HRR := Lib.hid hRR
  clear hRR
  go_enter Tryz.func40, Tryz.ntmps40
  have HI := Lib.hid h
  clear h
  go_wp2_with fail
  refine (qnum_any w0 w k ⟨s, false⟩ 2 (by decide) (by show qpot s ≤ _; omega) HI.out).mono ?_; rintro e w2 ⟨rfl, hI2⟩
  have hqp : qpot (qNum 2 ⟨s, false⟩).2.s ≤ 900000 := by have := qpot_num 2 ⟨s, false⟩; have h2 : qpot (QS.mk s false).s = qpot s := rfl; omega
  have hnr := qNum_range (k := 2) (by decide) ⟨s, false⟩
  have HI2 := Lib.hid hI2
  clear hI2
  go_wp2_with fail
  refine (qkeep_any w0 w2 k (qNum 2 ⟨s, false⟩).2 (qNum 2 ⟨s, false⟩).1 (by omega) HI2.out).mono ?_; rintro e w3 ⟨rfl, hI3⟩
  have HC := Lib.hid (show ∀ s1, RR = some s1 → (qKeepNum 2 ⟨s, false⟩).bad = false ∧ rRep (qNum 2 ⟨s, false⟩).1.toNat (rThing 109) (qKeepNum 2 ⟨s, false⟩).s = some s1 from fun s1 h1 => rCounted_of (HRR.out.symm.trans h1))
  have hp0 : qpot (qKeepNum 2 ⟨s, false⟩).s + (if (qKeepNum 2 ⟨s, false⟩).bad then 0 else 1) ≤ qpot s + 1 := by
    have h1 := qpot_num 2 ⟨s, false⟩
    have h2 : qpot (qKeepNum 2 ⟨s, false⟩).s = qpot (qNum 2 ⟨s, false⟩).2.s + 1 := qpot_keep _ _
    have h3 : (qKeepNum 2 ⟨s, false⟩).bad = if s.S.length < 2 then true else false := qNum_bad 2 ⟨s, false⟩
    have h4 : qpot (QS.mk s false).s = qpot s := rfl
    have h5 : (QS.mk s false).s.S.length = s.S.length := rfl
    rw [h3]
    by_cases hl : s.S.length < 2
    · rw [if_pos hl, if_pos rfl]; omega
    · rw [h5, if_neg hl] at h1
      rw [if_neg hl, if_neg (by decide)]; omega
  have hI3' : IsQ w0 w3 k (qKeepNum 2 ⟨s, false⟩) := hI3
  obtain ⟨q0, hq0⟩ : ∃ z, z = qKeepNum 2 ⟨s, false⟩ := ⟨_, rfl⟩
  obtain ⟨n, hn⟩ : ∃ z, z = (qNum 2 ⟨s, false⟩).1 := ⟨_, rfl⟩
  rw [← hq0] at hI3' HC hp0
  rw [← hn] at hnr HC ⊢
  have HP0 := Lib.hid hp0
  have HI3 := Lib.hid hI3'
  clear hI3 hI3' hq0 hn hqp HI2 HI hp0
  go_wp2_with fail
  go_loopw [6] (fun iv wr => ∃ (i : Nat) (q : QS), iv = .int .i64 i ∧ IsQ w0 wr k q ∧ (q.bad = false → qpot q.s ≤ qpot s) ∧ qpot q.s ≤ qpot s + 2 ∧ i ≤ n.toNat ∧ ∀ s1, RR = some s1 → q.bad = false ∧ rRep (n.toNat - i) (rThing 109) q.s = some s1) (fun iv _ => n.toNat - (RowKit.intOf iv).toNat)
  case atStart => exact ⟨0, q0, rfl, HI3.out, fun h => by have := HP0.out; rw [h, if_neg (by decide)] at this; omega, by have := HP0.out; split at this <;> omega, Nat.zero_le _, HC.out⟩
  case round =>
    obtain ⟨i, q, rfl, hI, hg, hp, hi, hs⟩ := hrel
    have HG := Lib.hid hg; have HP := Lib.hid hp; have HS := Lib.hid hs; have HQ := Lib.hid hI
    obtain ⟨tv, nv, hQ⟩ := hI
    have c4 := hQ.cell.2.2.2.2
    clear hg hp hs hQ
    by_cases hlt : (i : Int) < n
    · have hl1 : decide ((i : Int) < n) = true := decide_eq_true hlt
      have HLT := Lib.hid hlt
      have hi9 : i < 4294967297 := by omega
      by_cases hb : q.bad = true
      · have HB := Lib.hid hb
        rw [hb] at c4
        clear hb
        go_wp2_with fail
        go_end0
        exact qout_of HQ.out HP.out (fun s1 h1 => by have := (HS.out s1 h1).1; rw [HB.out] at this; cases this)
      · have hb0 : q.bad = false := by simpa using hb
        have HB := Lib.hid hb0
        rw [hb0] at c4
        clear hb hb0
        go_wp2_with fail
        refine (qitem_m w0 wr k q (by have := HG.out HB.out; omega) HQ.out).mono ?_; rintro e w5 ⟨rfl, hI5⟩
        have HI5 := Lib.hid (show IsQ w0 w5 k (qThing 109 q) from hI5)
        clear hI5 hlt hl1
        go_wp2_with fail
        go_roundw
        case rel =>
          refine ⟨i + 1, qThing 109 q, by go_num, HI5.out, fun h => ?_, ?_, by have := HLT.out; omega, fun s1 h1 => ?_⟩
          · have h1 := qThing_pot 109 q
            rw [h, if_neg (by decide)] at h1
            have := HG.out HB.out; omega
          · have h1 := qThing_pot 109 q
            have := HG.out HB.out
            split at h1 <;> omega
          · obtain ⟨h2, h3⟩ := HS.out s1 h1
            have h4 : n.toNat - i = n.toNat - (i + 1) + 1 := by have := HLT.out; omega
            rw [h4] at h3
            exact rThing_next h2 h3
        case measure => have := HLT.out; first | omega | (simp [RowKit.intOf]; omega)
    · have hl1 : decide ((i : Int) < n) = false := decide_eq_false hlt
      have HLT := Lib.hid hlt
      go_wp2_with fail
      go_end0
      refine qout_of HQ.out HP.out (fun s1 h1 => ?_)
      obtain ⟨h2, h3⟩ := HS.out s1 h1
      have h4 : n.toNat - i = 0 := by have := HLT.out; omega
      rw [h4] at h3
      have h5 : q.s = s1 := Option.some.inj h3
      cases q with | mk a b => rw [← h5, ← h2]
set_option maxRecDepth 100000 in
set_option maxHeartbeats 8000000 in
theorem qfield_v (w0 w : World) (k : Int) (s : RS) (hr : qpot s ≤ 900000) (h : IsQ w0 w k ⟨s, false⟩) :
    Calls Tryz.prog 40 #[.pointer (some ⟨w0.heap.size, 0, none⟩), .int .u8 118] w (QOut w0 k (qpot s + 2) (rCounted (rThing 118) s)) := by
  obtain ⟨RR, hRR⟩ : ∃ z, z = rCounted (rThing 118) s := ⟨_, rfl⟩
  rw [← hRR]
  have HRR := Lib.hid hRR
  clear hRR
  go_enter Tryz.func40, Tryz.ntmps40
  have HI := Lib.hid h
  clear h
  go_wp2_with fail
  refine (qnum_any w0 w k ⟨s, false⟩ 2 (by decide) (by show qpot s ≤ _; omega) HI.out).mono ?_; rintro e w2 ⟨rfl, hI2⟩
  have hqp : qpot (qNum 2 ⟨s, false⟩).2.s ≤ 900000 := by have := qpot_num 2 ⟨s, false⟩; have h2 : qpot (QS.mk s false).s = qpot s := rfl; omega
  have hnr := qNum_range (k := 2) (by decide) ⟨s, false⟩
  have HI2 := Lib.hid hI2
  clear hI2
  go_wp2_with fail
  refine (qkeep_any w0 w2 k (qNum 2 ⟨s, false⟩).2 (qNum 2 ⟨s, false⟩).1 (by omega) HI2.out).mono ?_; rintro e w3 ⟨rfl, hI3⟩
  have HC := Lib.hid (show ∀ s1, RR = some s1 → (qKeepNum 2 ⟨s, false⟩).bad = false ∧ rRep (qNum 2 ⟨s, false⟩).1.toNat (rThing 118) (qKeepNum 2 ⟨s, false⟩).s = some s1 from fun s1 h1 => rCounted_of (HRR.out.symm.trans h1))
  have hp0 : qpot (qKeepNum 2 ⟨s, false⟩).s + (if (qKeepNum 2 ⟨s, false⟩).bad then 0 else 1) ≤ qpot s + 1 := by
    have h1 := qpot_num 2 ⟨s, false⟩
    have h2 : qpot (qKeepNum 2 ⟨s, false⟩).s = qpot (qNum 2 ⟨s, false⟩).2.s + 1 := qpot_keep _ _
    have h3 : (qKeepNum 2 ⟨s, false⟩).bad = if s.S.length < 2 then true else false := qNum_bad 2 ⟨s, false⟩
    have h4 : qpot (QS.mk s false).s = qpot s := rfl
    have h5 : (QS.mk s false).s.S.length = s.S.length := rfl
    rw [h3]
    by_cases hl : s.S.length < 2
    · rw [if_pos hl, if_pos rfl]; omega
    · rw [h5, if_neg hl] at h1
      rw [if_neg hl, if_neg (by decide)]; omega
  have hI3' : IsQ w0 w3 k (qKeepNum 2 ⟨s, false⟩) := hI3
  obtain ⟨q0, hq0⟩ : ∃ z, z = qKeepNum 2 ⟨s, false⟩ := ⟨_, rfl⟩
  obtain ⟨n, hn⟩ : ∃ z, z = (qNum 2 ⟨s, false⟩).1 := ⟨_, rfl⟩
  rw [← hq0] at hI3' HC hp0
  rw [← hn] at hnr HC ⊢
  have HP0 := Lib.hid hp0
  have HI3 := Lib.hid hI3'
  clear hI3 hI3' hq0 hn hqp HI2 HI hp0
  go_wp2_with fail
  go_loopw [6] (fun iv wr => ∃ (i : Nat) (q : QS), iv = .int .i64 i ∧ IsQ w0 wr k q ∧ (q.bad = false → qpot q.s ≤ qpot s) ∧ qpot q.s ≤ qpot s + 2 ∧ i ≤ n.toNat ∧ ∀ s1, RR = some s1 → q.bad = false ∧ rRep (n.toNat - i) (rThing 118) q.s = some s1) (fun iv _ => n.toNat - (RowKit.intOf iv).toNat)
  case atStart => exact ⟨0, q0, rfl, HI3.out, fun h => by have := HP0.out; rw [h, if_neg (by decide)] at this; omega, by have := HP0.out; split at this <;> omega, Nat.zero_le _, HC.out⟩
  case round =>
    obtain ⟨i, q, rfl, hI, hg, hp, hi, hs⟩ := hrel
    have HG := Lib.hid hg; have HP := Lib.hid hp; have HS := Lib.hid hs; have HQ := Lib.hid hI
    obtain ⟨tv, nv, hQ⟩ := hI
    have c4 := hQ.cell.2.2.2.2
    clear hg hp hs hQ
    by_cases hlt : (i : Int) < n
    · have hl1 : decide ((i : Int) < n) = true := decide_eq_true hlt
      have HLT := Lib.hid hlt
      have hi9 : i < 4294967297 := by omega
      by_cases hb : q.bad = true
      · have HB := Lib.hid hb
        rw [hb] at c4
        clear hb
        go_wp2_with fail
        go_end0
        exact qout_of HQ.out HP.out (fun s1 h1 => by have := (HS.out s1 h1).1; rw [HB.out] at this; cases this)
      · have hb0 : q.bad = false := by simpa using hb
        have HB := Lib.hid hb0
        rw [hb0] at c4
        clear hb hb0
        go_wp2_with fail
        refine (qitem_v w0 wr k q (by have := HG.out HB.out; omega) HQ.out).mono ?_; rintro e w5 ⟨rfl, hI5⟩
        have HI5 := Lib.hid (show IsQ w0 w5 k (qThing 118 q) from hI5)
        clear hI5 hlt hl1
        go_wp2_with fail
        go_roundw
        case rel =>
          refine ⟨i + 1, qThing 118 q, by go_num, HI5.out, fun h => ?_, ?_, by have := HLT.out; omega, fun s1 h1 => ?_⟩
          · have h1 := qThing_pot 118 q
            rw [h, if_neg (by decide)] at h1
            have := HG.out HB.out; omega
          · have h1 := qThing_pot 118 q
            have := HG.out HB.out
            split at h1 <;> omega
          · obtain ⟨h2, h3⟩ := HS.out s1 h1
            have h4 : n.toNat - i = n.toNat - (i + 1) + 1 := by have := HLT.out; omega
            rw [h4] at h3
            exact rThing_next h2 h3
        case measure => have := HLT.out; first | omega | (simp [RowKit.intOf]; omega)
    · have hl1 : decide ((i : Int) < n) = false := decide_eq_false hlt
      have HLT := Lib.hid hlt
      go_wp2_with fail
      go_end0
      refine qout_of HQ.out HP.out (fun s1 h1 => ?_)
      obtain ⟨h2, h3⟩ := HS.out s1 h1
      have h4 : n.toNat - i = 0 := by have := HLT.out; omega
      rw [h4] at h3
      have h5 : q.s = s1 := Option.some.inj h3
      cases q with | mk a b => rw [← h5, ← h2]
theorem qfield_any (w0 w : World) (k : Int) (s : RS) (c : UInt8) (hc : c ∈ [115, 98, 105, 112, 102, 99, 108, 118, 109]) (hr : qpot s ≤ 900000) (h : IsQ w0 w k ⟨s, false⟩) :
    Calls Tryz.prog 40 #[.pointer (some ⟨w0.heap.size, 0, none⟩), .int .u8 c.toNat] w (QOut w0 k (qpot s + 2) (rField c s)) := by
  simp only [List.mem_cons, List.not_mem_nil, or_false] at hc
  rcases hc with rfl | rfl | rfl | rfl | rfl | rfl | rfl | rfl | rfl
  · exact qfield_t w0 w k s hr h
  · exact qfield_b w0 w k s hr h
  · exact qfield_i w0 w k s hr h
  · exact qfield_p w0 w k s hr h
  · exact qfield_f w0 w k s hr h
  · exact qfield_c w0 w k s hr h
  · exact qfield_l w0 w k s hr h
  · exact qfield_v w0 w k s hr h
  · exact qfield_m w0 w k s hr h
end Go.Proofs.YtmofnkinclckoaaGreatDoor
