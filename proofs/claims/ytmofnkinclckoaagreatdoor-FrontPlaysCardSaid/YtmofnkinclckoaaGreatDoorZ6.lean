/- Contracts and mathematics: MWrite. -/
import Derived.Test.YtmofnkinclckoaaGreatDoorZ5
import Derived.Defers
import Derived.Recover
namespace Go.Proofs.YtmofnkinclckoaaGreatDoor
open Go.RowKit Go.Lib Go.WideShapes

theorem catch_written (b c : Nat) (x0 x1 : Value) (u : TypeId) (pv : Value) (older : List PanicEntry) (w : World) (hbc : b ≠ c)
    (c0 : w.cell? ⟨b, 0, none⟩ = some x0) (c1 : w.cell? ⟨c, 0, none⟩ = some x1)
    (f0 : w.frozen? ⟨b, 0, none⟩ = false) (f1 : w.frozen? ⟨c, 0, none⟩ = false) :
    CallsD Tryz.prog 43 #[.pointer (some ⟨b, 0, none⟩), .pointer (some ⟨c, 0, none⟩)] (.panicking ({ v := .iface u pv, recovered := false } :: older)) w fun e u' w' =>
      e = .returned (.tuple #[]) ∧ u' = .panicking ({ v := .iface u pv, recovered := true } :: older) ∧
        w' = (w.setCell ⟨b, 0, none⟩ (.string { data := #[] })).setCell ⟨c, 0, none⟩ (.int .i64 1) := by
  refine callsD_of_wpS Tryz.func43 rfl fun c₀ cs hu => ?_
  apply wpS_seq
  apply wpS_region
  simp [wpOpsS, go_sem, recoverD, hu, Tryz.ntmps43, Exit.thenS]
  refine wpS_cond (t := true) (by simp [Act.eval, Array.replicate]) ?_
  simp only [if_true]
  apply wpS_region
  simp [wpOpsS, go_sem, c0, c1, f0, f1, bodyPostS, results, Tryz.results43]

theorem catch_idleM (b c : Nat) (w : World) :
    CallsD Tryz.prog 43 #[.pointer (some ⟨b, 0, none⟩), .pointer (some ⟨c, 0, none⟩)] .returning w fun e u' w' => e = .returned (.tuple #[]) ∧ u' = .returning ∧ w' = w := by
  refine callsD_of_wpS Tryz.func43 rfl fun c₀ cs hu => ?_
  apply wpS_seq
  apply wpS_region
  simp [wpOpsS, go_sem, recoverD, hu, Tryz.ntmps43, Exit.thenS]
  refine wpS_cond (t := false) (by simp [Act.eval, Array.replicate]) ?_
  simp only [Bool.false_eq_true, if_false]
  refine wpS_of_wp (wp_skip ?_)
  cases c₀
  simp_all [bodyPostS, results, Tryz.results43]

def layW (back : Bool) (c : UInt8) (N : List Int) : Option Bs := if back = false ∧ c = 0 ∧ N.head? = some 80877102 then some [105, 105, 105] else lay back c
def wDone (s : WS) : Option Bs := if s.T = [] ∧ s.N = [] then some s.B else none
def written (back : Bool) (c : UInt8) (T : List Bs) (N : List Int) : Option Bs := (layW back c N).bind fun l => (wAll l ⟨T, N, []⟩).bind wDone
def writtenV (r : Option Bs) : Value := .tuple #[.string ⟨(r.getD []).toArray⟩, .int .i64 (if r.isSome then 0 else 1)]

theorem lay_length {back : Bool} {c : UInt8} {l : Bs} (h : lay back c = some l) : l.length ≤ 9 := by
  cases back with
  | true =>
    have h : layS c = some l := h
    unfold layS at h
    by_cases e82 : c = 82
    · rw [if_pos e82] at h; obtain rfl := Option.some.inj h; decide
    rw [if_neg e82] at h
    by_cases e83 : c = 83
    · rw [if_pos e83] at h; obtain rfl := Option.some.inj h; decide
    rw [if_neg e83] at h
    by_cases e75 : c = 75
    · rw [if_pos e75] at h; obtain rfl := Option.some.inj h; decide
    rw [if_neg e75] at h
    by_cases e90 : c = 90
    · rw [if_pos e90] at h; obtain rfl := Option.some.inj h; decide
    rw [if_neg e90] at h
    by_cases e67 : c = 67
    · rw [if_pos e67] at h; obtain rfl := Option.some.inj h; decide
    rw [if_neg e67] at h
    by_cases e69 : c = 69
    · rw [if_pos e69] at h; obtain rfl := Option.some.inj h; decide
    rw [if_neg e69] at h
    by_cases e78 : c = 78
    · rw [if_pos e78] at h; obtain rfl := Option.some.inj h; decide
    rw [if_neg e78] at h
    by_cases e84 : c = 84
    · rw [if_pos e84] at h; obtain rfl := Option.some.inj h; decide
    rw [if_neg e84] at h
    by_cases e68 : c = 68
    · rw [if_pos e68] at h; obtain rfl := Option.some.inj h; decide
    rw [if_neg e68] at h
    by_cases e73 : c = 73
    · rw [if_pos e73] at h; obtain rfl := Option.some.inj h; decide
    rw [if_neg e73] at h
    by_cases e49 : c = 49
    · rw [if_pos e49] at h; obtain rfl := Option.some.inj h; decide
    rw [if_neg e49] at h
    by_cases e50 : c = 50
    · rw [if_pos e50] at h; obtain rfl := Option.some.inj h; decide
    rw [if_neg e50] at h
    by_cases e51 : c = 51
    · rw [if_pos e51] at h; obtain rfl := Option.some.inj h; decide
    rw [if_neg e51] at h
    by_cases e110 : c = 110
    · rw [if_pos e110] at h; obtain rfl := Option.some.inj h; decide
    rw [if_neg e110] at h
    by_cases e115 : c = 115
    · rw [if_pos e115] at h; obtain rfl := Option.some.inj h; decide
    rw [if_neg e115] at h
    cases h
  | false =>
    have h : layC c = some l := h
    unfold layC at h
    by_cases e0 : c = 0
    · rw [if_pos e0] at h; obtain rfl := Option.some.inj h; decide
    rw [if_neg e0] at h
    by_cases e81 : c = 81
    · rw [if_pos e81] at h; obtain rfl := Option.some.inj h; decide
    rw [if_neg e81] at h
    by_cases e112 : c = 112
    · rw [if_pos e112] at h; obtain rfl := Option.some.inj h; decide
    rw [if_neg e112] at h
    by_cases e88 : c = 88
    · rw [if_pos e88] at h; obtain rfl := Option.some.inj h; decide
    rw [if_neg e88] at h
    by_cases e83 : c = 83
    · rw [if_pos e83] at h; obtain rfl := Option.some.inj h; decide
    rw [if_neg e83] at h
    by_cases e72 : c = 72
    · rw [if_pos e72] at h; obtain rfl := Option.some.inj h; decide
    rw [if_neg e72] at h
    by_cases e80 : c = 80
    · rw [if_pos e80] at h; obtain rfl := Option.some.inj h; decide
    rw [if_neg e80] at h
    by_cases e66 : c = 66
    · rw [if_pos e66] at h; obtain rfl := Option.some.inj h; decide
    rw [if_neg e66] at h
    by_cases e69 : c = 69
    · rw [if_pos e69] at h; obtain rfl := Option.some.inj h; decide
    rw [if_neg e69] at h
    by_cases e68 : c = 68
    · rw [if_pos e68] at h; obtain rfl := Option.some.inj h; decide
    rw [if_neg e68] at h
    by_cases e67 : c = 67
    · rw [if_pos e67] at h; obtain rfl := Option.some.inj h; decide
    rw [if_neg e67] at h
    cases h
theorem written_none {back : Bool} {c : UInt8} {T : List Bs} {N : List Int} (h : lay back c = none) : written back c T N = none := by
  unfold written layW
  split
  · rename_i hc
    obtain ⟨rfl, rfl, _⟩ := hc
    cases h
  · rw [h]; rfl
theorem written_some {back : Bool} {c : UInt8} {T : List Bs} {N : List Int} {l : Bs} (h : lay back c = some l) (hc : ¬ (back = false ∧ c = 0 ∧ N.head? = some 80877102)) : written back c T N = (wAll l ⟨T, N, []⟩).bind wDone := by
  unfold written layW
  rw [if_neg hc, h]; rfl
theorem written_cancel {T : List Bs} {N : List Int} (h : N.head? = some 80877102) : written false 0 T N = (wAll [105, 105, 105] ⟨T, N, []⟩).bind wDone := by
  unfold written layW
  rw [if_pos ⟨rfl, rfl, h⟩]; rfl

set_option maxRecDepth 100000 in
set_option maxHeartbeats 16000000 in
theorem write_any (w : World) (back : Bool) (c : UInt8) (T : List Bs) (N : List Int) (tv nv : Value) (hT : TextsIn w tv T) (hN : NumsIn w nv N) (hr : room ⟨T, N, []⟩ ≤ 800000) :
    Calls Tryz.prog 29 #[.bool back, .agg #[.int .u8 (c.toNat : Nat), tv, nv]] w fun e w' => e = .returned (writtenV (written back c T N)) ∧ Below w.heap.size w w' := by
  have hmf : ∀ (fn : Fn) (first cap : Array Value) (w : World), (Instr.makeFunc fn first cap).run Tryz.prog w = .ok (.func fn first cap) w := fun _ _ _ _ => rfl
  have HT := Lib.hid hT; have HN := Lib.hid hN
  obtain ⟨at', nt, ct, rfl, hlt, hnt, hct, _⟩ := hT
  obtain ⟨an, nn, cn, rfl, hln, hnn, hcn, hcell⟩ := hN
  obtain ⟨R, hR⟩ : ∃ R, R = written back c T N := ⟨_, rfl⟩
  rw [← hR]
  have HR := Lib.hid hR
  clear hR
  obtain ⟨W0, hW0⟩ : ∃ x, x = ((w.alloc (.cells #[.int .u8 (c.toNat : Nat), .slice at' nt ct, .slice an nn cn] 54)).alloc (.cells #[.string { data := #[] }] 9)).alloc (.cells #[.int .i64 0] 40) := ⟨_, rfl⟩
  have hsz : W0.heap.size = w.heap.size + 1 + 1 + 1 := by rw [hW0]; simp
  have HB := Lib.hid (show Below w.heap.size w W0 by rw [hW0]; exact (((Below.refl _ _).alloc (Nat.le_refl _) _).alloc (by simp) _).alloc (by simp; omega) _)
  have HK := Lib.hid (show W0.cell? ⟨w.heap.size + 1, 0, none⟩ = some (.string { data := #[] }) ∧ W0.cell? ⟨w.heap.size + 1 + 1, 0, none⟩ = some (.int .i64 0) ∧ W0.frozen? ⟨w.heap.size + 1, 0, none⟩ = false ∧ W0.frozen? ⟨w.heap.size + 1 + 1, 0, none⟩ = false by rw [hW0]; simp [go_sem])
  have HNEW := Lib.hid (is_new HT.out HN.out HB.out)
  have HE := Lib.hid hW0
  have HSZ := Lib.hid hsz
  have HRR := Lib.hid hr
  clear hW0 hsz hr
  go_enter_defers Tryz.func29, Tryz.ntmps29
  go_wp2_with fail
  refine (lay_any _ back c).mono ?_; rintro e w1 ⟨rfl, rfl⟩
  generalize hl : lay back c = r
  have HL := Lib.hid hl
  clear hl
  cases r with
  | none =>
    unfold layV
    go_wp2_with fail
    refine (demand_no _).mono ?_; rintro e w1 ⟨rfl, rfl⟩
    go_wp2_with fail
    rw [← HE.out]
    have kk := HK.out
    have b1 : (W0).cell? ⟨w.heap.size + 1, 0, none⟩ = some (.string { data := #[] }) := ((Below.refl W0.heap.size W0).cell (p := ⟨w.heap.size + 1, 0, none⟩) (by show w.heap.size + 1 < _; rw [HSZ.out]; omega)).trans kk.1
    have b2 : (W0).cell? ⟨w.heap.size + 1 + 1, 0, none⟩ = some (.int .i64 0) := ((Below.refl W0.heap.size W0).cell (p := ⟨w.heap.size + 1 + 1, 0, none⟩) (by show w.heap.size + 1 + 1 < _; rw [HSZ.out]; omega)).trans kk.2.1
    have b3 : (W0).frozen? ⟨w.heap.size + 1, 0, none⟩ = false := ((Below.refl W0.heap.size W0).frozen (p := ⟨w.heap.size + 1, 0, none⟩) (by show w.heap.size + 1 < _; rw [HSZ.out]; omega)).trans kk.2.2.1
    have b4 : (W0).frozen? ⟨w.heap.size + 1 + 1, 0, none⟩ = false := ((Below.refl W0.heap.size W0).frozen (p := ⟨w.heap.size + 1 + 1, 0, none⟩) (by show w.heap.size + 1 + 1 < _; rw [HSZ.out]; omega)).trans kk.2.2.2
    clear kk
    unfold errV
    refine leaves_cons (f := 43) (args := #[.pointer (some ⟨w.heap.size + 1, 0, none⟩), .pointer (some ⟨w.heap.size + 1 + 1, 0, none⟩)]) (by simp) (by simp [go_sem]) ?_
    refine (catch_written (w.heap.size + 1) (w.heap.size + 1 + 1) _ _ _ _ _ _ (by omega) b1 b2 b3 b4).mono ?_
    rintro e u' w'' ⟨rfl, rfl, rfl⟩
    have HNO := Lib.hid (show R = none from HR.out.trans (written_none HL.out))
    have HBB := Lib.hid ((HB.out.trans ((Below.refl W0.heap.size W0).mono (by rw [HSZ.out]; omega))))
    rw [HNO.out]
    simp [Leaves, settle, results, Tryz.results29, go_sem, b1, b2, writtenV]
    exact (HBB.out.setCell (by show w.heap.size ≤ w.heap.size + 1; omega) _).setCell (by show w.heap.size ≤ w.heap.size + 1 + 1; omega) _
  | some l =>
    have hl9 : l.length ≤ 9 := lay_length HL.out
    unfold layV
    cases back with
    | true =>
      have HLR := Lib.hid (HR.out.trans (written_some HL.out (by simp)))
      go_wp2_with fail
      refine (demand_ok _).mono ?_; rintro e w1 ⟨rfl, rfl⟩
      go_wp2_with fail
      rw [← HE.out]
      have HR := Lib.hid (show R = (wAll l ⟨T, N, []⟩).bind wDone from HLR.out)
      clear HLR
      go_loopg [48] l.length (fun g i wr => ∃ (j : Nat) (s2 : WS), i = .int .i64 j ∧ j ≤ l.length ∧ g = l.length - j ∧ wAll ((l : Bs).take j) ⟨T, N, []⟩ = some s2 ∧ room s2 ≤ 800000 ∧ IsW W0 wr s2)
      case atStart => exact ⟨0, _, rfl, Nat.zero_le _, rfl, rfl, HRR.out, HNEW.out⟩
      case round =>
        obtain ⟨j, s2, rfl, hj, hg, hall, hr2, hW2⟩ := hrel
        have HALL := Lib.hid hall; have HW2 := Lib.hid hW2; have HG := Lib.hid hg
        clear hall hW2 hg
        by_cases hlt : j < l.length
        · have hlt' : (j : Int) < l.length := by omega
          have hltL : j < (l : Bs).length := hlt
          have HF := field_any W0 wr s2 ((l : Bs)[j]) hr2 HW2.out
          rw [HSZ.out] at HF
          have HF := Lib.hid HF
          go_wp2_with fail
          refine HF.out.mono ?_; rintro e w2 (⟨s3, hs3, rfl, hW3⟩ | ⟨hs3, rfl, hB⟩)
          · have HW3 := Lib.hid hW3
            have HN3 := Lib.hid (wAll_next hltL HALL.out hs3)
            have hr3 : room s3 ≤ 800000 := Nat.le_trans (field_room hs3) hr2
            clear hW3 hs3
            go_wp2_with fail
            go_roundg (l.length - (j + 1))
            case measure => have := HG.out; omega
            case rel => exact ⟨j + 1, s3, by go_num, by omega, rfl, HN3.out, hr3, HW3.out⟩
          · have HN3 := Lib.hid (wAll_fail hltL HALL.out hs3)
            clear hs3
            go_wp2_with fail
            have kk := HK.out
            have b1 : (w2).cell? ⟨w.heap.size + 1, 0, none⟩ = some (.string { data := #[] }) := (hB.cell (p := ⟨w.heap.size + 1, 0, none⟩) (by show w.heap.size + 1 < _; rw [HSZ.out]; omega)).trans kk.1
            have b2 : (w2).cell? ⟨w.heap.size + 1 + 1, 0, none⟩ = some (.int .i64 0) := (hB.cell (p := ⟨w.heap.size + 1 + 1, 0, none⟩) (by show w.heap.size + 1 + 1 < _; rw [HSZ.out]; omega)).trans kk.2.1
            have b3 : (w2).frozen? ⟨w.heap.size + 1, 0, none⟩ = false := (hB.frozen (p := ⟨w.heap.size + 1, 0, none⟩) (by show w.heap.size + 1 < _; rw [HSZ.out]; omega)).trans kk.2.2.1
            have b4 : (w2).frozen? ⟨w.heap.size + 1 + 1, 0, none⟩ = false := (hB.frozen (p := ⟨w.heap.size + 1 + 1, 0, none⟩) (by show w.heap.size + 1 + 1 < _; rw [HSZ.out]; omega)).trans kk.2.2.2
            clear kk
            unfold errV
            refine leaves_cons (f := 43) (args := #[.pointer (some ⟨w.heap.size + 1, 0, none⟩), .pointer (some ⟨w.heap.size + 1 + 1, 0, none⟩)]) (by simp) (by simp [go_sem]) ?_
            refine (catch_written (w.heap.size + 1) (w.heap.size + 1 + 1) _ _ _ _ _ _ (by omega) b1 b2 b3 b4).mono ?_
            rintro e u' w'' ⟨rfl, rfl, rfl⟩
            have HNO := Lib.hid (show R = none from HR.out.trans (by rw [HN3.out]; rfl))
            have HBB := Lib.hid ((HB.out.trans (hB.mono (by rw [HSZ.out]; omega))))
            rw [HNO.out]
            simp [Leaves, settle, results, Tryz.results29, go_sem, b1, b2, writtenV]
            exact (HBB.out.setCell (by show w.heap.size ≤ w.heap.size + 1; omega) _).setCell (by show w.heap.size ≤ w.heap.size + 1 + 1; omega) _
        · obtain rfl : j = l.length := by omega
          have HALL := Lib.hid (show wAll l ⟨T, N, []⟩ = some s2 by have h := HALL.out; rw [show ((l : Bs).take l.length) = l from by first | exact List.take_length | rfl] at h; exact h)
          have HDN := Lib.hid (show R = wDone s2 by rw [HR.out, HALL.out]; rfl)
          obtain ⟨tv2, nv2, bv2, hW⟩ := HW2.out
          obtain ⟨ta, tn, tc, rfl, htl, htn, htc, _⟩ := hW.texts
          obtain ⟨na, nm, nc, rfl, hnl, hnm, hnc, _⟩ := hW.nums
          obtain ⟨ba, bc, rfl⟩ := ownsRow_form hW.body
          have c0 := hW.c0
          have c1 := hW.c1
          have c2 := hW.c2
          rw [HSZ.out] at c0 c1 c2
          have hcv : (convert 65 9 (.slice ba s2.B.length bc)).run Tryz.prog wr = .ok (.string ⟨s2.B.toArray⟩) wr := own_text hW.body rfl
          have HWB := Lib.hid hW.below
          have HTL := Lib.hid htl; have HNL := Lib.hid hnl
          clear hW htl hnl
          by_cases ht0 : s2.T = []
          · obtain rfl : tn = 0 := by rw [← HTL.out, ht0]; rfl
            by_cases hn0 : s2.N = []
            · obtain rfl : nm = 0 := by rw [← HNL.out, hn0]; rfl
              have HDN := Lib.hid (show R = some s2.B by rw [HDN.out, wDone, if_pos ⟨ht0, hn0⟩])
              clear ht0 hn0
              go_wp2_with fail
              refine (demand_ok _).mono ?_; rintro e w1 ⟨rfl, rfl⟩
              have kk := HK.out
              have b1 : (wr).cell? ⟨w.heap.size + 1, 0, none⟩ = some (.string { data := #[] }) := (HWB.out.cell (p := ⟨w.heap.size + 1, 0, none⟩) (by show w.heap.size + 1 < _; rw [HSZ.out]; omega)).trans kk.1
              have b2 : (wr).cell? ⟨w.heap.size + 1 + 1, 0, none⟩ = some (.int .i64 0) := (HWB.out.cell (p := ⟨w.heap.size + 1 + 1, 0, none⟩) (by show w.heap.size + 1 + 1 < _; rw [HSZ.out]; omega)).trans kk.2.1
              have b3 : (wr).frozen? ⟨w.heap.size + 1, 0, none⟩ = false := (HWB.out.frozen (p := ⟨w.heap.size + 1, 0, none⟩) (by show w.heap.size + 1 < _; rw [HSZ.out]; omega)).trans kk.2.2.1
              have b4 : (wr).frozen? ⟨w.heap.size + 1 + 1, 0, none⟩ = false := (HWB.out.frozen (p := ⟨w.heap.size + 1 + 1, 0, none⟩) (by show w.heap.size + 1 + 1 < _; rw [HSZ.out]; omega)).trans kk.2.2.2
              clear kk
              go_wp2_with fail
              refine leaves_cons (f := 43) (args := #[.pointer (some ⟨w.heap.size + 1, 0, none⟩), .pointer (some ⟨w.heap.size + 1 + 1, 0, none⟩)]) (by simp) (by simp [go_sem]) ?_
              refine (catch_idleM _ _ _).mono ?_
              rintro e u' w'' ⟨rfl, rfl, rfl⟩
              have HBB := Lib.hid ((HB.out.trans (HWB.out.mono (by rw [HSZ.out]; omega))))
              rw [HDN.out]
              simp [Leaves, settle, results, Tryz.results29, go_sem, b1, b2, writtenV]
              exact (HBB.out.setCell (by show w.heap.size ≤ w.heap.size + 1; omega) _).setCell (by show w.heap.size ≤ w.heap.size + 1 + 1; omega) _
            · have hne : ((nm : Int) == 0) = false := by
                cases hb : ((nm : Int) == 0) with
                | false => rfl
                | true => exact absurd (List.length_eq_zero_iff.1 (by rw [HNL.out]; have := eq_of_beq hb; omega)) hn0
              have HDN := Lib.hid (show R = none by rw [HDN.out, wDone, if_neg (fun h => hn0 h.2)])
              clear ht0 hn0
              go_wp2_with fail
              refine (demand_no _).mono ?_; rintro e w1 ⟨rfl, rfl⟩
              go_wp2_with fail
              have kk := HK.out
              have b1 : (wr).cell? ⟨w.heap.size + 1, 0, none⟩ = some (.string { data := #[] }) := (HWB.out.cell (p := ⟨w.heap.size + 1, 0, none⟩) (by show w.heap.size + 1 < _; rw [HSZ.out]; omega)).trans kk.1
              have b2 : (wr).cell? ⟨w.heap.size + 1 + 1, 0, none⟩ = some (.int .i64 0) := (HWB.out.cell (p := ⟨w.heap.size + 1 + 1, 0, none⟩) (by show w.heap.size + 1 + 1 < _; rw [HSZ.out]; omega)).trans kk.2.1
              have b3 : (wr).frozen? ⟨w.heap.size + 1, 0, none⟩ = false := (HWB.out.frozen (p := ⟨w.heap.size + 1, 0, none⟩) (by show w.heap.size + 1 < _; rw [HSZ.out]; omega)).trans kk.2.2.1
              have b4 : (wr).frozen? ⟨w.heap.size + 1 + 1, 0, none⟩ = false := (HWB.out.frozen (p := ⟨w.heap.size + 1 + 1, 0, none⟩) (by show w.heap.size + 1 + 1 < _; rw [HSZ.out]; omega)).trans kk.2.2.2
              clear kk
              unfold errV
              refine leaves_cons (f := 43) (args := #[.pointer (some ⟨w.heap.size + 1, 0, none⟩), .pointer (some ⟨w.heap.size + 1 + 1, 0, none⟩)]) (by simp) (by simp [go_sem]) ?_
              refine (catch_written (w.heap.size + 1) (w.heap.size + 1 + 1) _ _ _ _ _ _ (by omega) b1 b2 b3 b4).mono ?_
              rintro e u' w'' ⟨rfl, rfl, rfl⟩
              have HNO := Lib.hid (show R = none from HDN.out)
              have HBB := Lib.hid ((HB.out.trans (HWB.out.mono (by rw [HSZ.out]; omega))))
              rw [HNO.out]
              simp [Leaves, settle, results, Tryz.results29, go_sem, b1, b2, writtenV]
              exact (HBB.out.setCell (by show w.heap.size ≤ w.heap.size + 1; omega) _).setCell (by show w.heap.size ≤ w.heap.size + 1 + 1; omega) _
          · have hne : ((tn : Int) == 0) = false := by
              cases hb : ((tn : Int) == 0) with
              | false => rfl
              | true => exact absurd (List.length_eq_zero_iff.1 (by rw [HTL.out]; have := eq_of_beq hb; omega)) ht0
            have HDN := Lib.hid (show R = none by rw [HDN.out, wDone, if_neg (fun h => ht0 h.1)])
            clear ht0
            go_wp2_with fail
            refine (demand_no _).mono ?_; rintro e w1 ⟨rfl, rfl⟩
            go_wp2_with fail
            have kk := HK.out
            have b1 : (wr).cell? ⟨w.heap.size + 1, 0, none⟩ = some (.string { data := #[] }) := (HWB.out.cell (p := ⟨w.heap.size + 1, 0, none⟩) (by show w.heap.size + 1 < _; rw [HSZ.out]; omega)).trans kk.1
            have b2 : (wr).cell? ⟨w.heap.size + 1 + 1, 0, none⟩ = some (.int .i64 0) := (HWB.out.cell (p := ⟨w.heap.size + 1 + 1, 0, none⟩) (by show w.heap.size + 1 + 1 < _; rw [HSZ.out]; omega)).trans kk.2.1
            have b3 : (wr).frozen? ⟨w.heap.size + 1, 0, none⟩ = false := (HWB.out.frozen (p := ⟨w.heap.size + 1, 0, none⟩) (by show w.heap.size + 1 < _; rw [HSZ.out]; omega)).trans kk.2.2.1
            have b4 : (wr).frozen? ⟨w.heap.size + 1 + 1, 0, none⟩ = false := (HWB.out.frozen (p := ⟨w.heap.size + 1 + 1, 0, none⟩) (by show w.heap.size + 1 + 1 < _; rw [HSZ.out]; omega)).trans kk.2.2.2
            clear kk
            unfold errV
            refine leaves_cons (f := 43) (args := #[.pointer (some ⟨w.heap.size + 1, 0, none⟩), .pointer (some ⟨w.heap.size + 1 + 1, 0, none⟩)]) (by simp) (by simp [go_sem]) ?_
            refine (catch_written (w.heap.size + 1) (w.heap.size + 1 + 1) _ _ _ _ _ _ (by omega) b1 b2 b3 b4).mono ?_
            rintro e u' w'' ⟨rfl, rfl, rfl⟩
            have HNO := Lib.hid (show R = none from HDN.out)
            have HBB := Lib.hid ((HB.out.trans (HWB.out.mono (by rw [HSZ.out]; omega))))
            rw [HNO.out]
            simp [Leaves, settle, results, Tryz.results29, go_sem, b1, b2, writtenV]
            exact (HBB.out.setCell (by show w.heap.size ≤ w.heap.size + 1; omega) _).setCell (by show w.heap.size ≤ w.heap.size + 1 + 1; omega) _
    | false =>
      by_cases h0 : c = 0
      · have h00 : c.toNat = 0 := by rw [h0]; rfl
        have HE := Lib.hid (show W0 = ((w.alloc (.cells #[.int .u8 0, .slice at' nt ct, .slice an nn cn] 54)).alloc (.cells #[.string { data := #[] }] 9)).alloc (.cells #[.int .i64 0] 40) by have := HE.out; rw [h00] at this; exact this)
        cases N with
        | nil =>
          have HLR := Lib.hid (HR.out.trans (written_some HL.out (by simp)))
          obtain rfl : 0 = nn := hln
          clear h0
          go_wp2_with fail
          refine (demand_ok _).mono ?_; rintro e w1 ⟨rfl, rfl⟩
          go_wp2_with fail
          rw [← HE.out]
          have HR := Lib.hid (show R = (wAll l ⟨T, [], []⟩).bind wDone from HLR.out)
          clear HLR
          go_loopg [48] l.length (fun g i wr => ∃ (j : Nat) (s2 : WS), i = .int .i64 j ∧ j ≤ l.length ∧ g = l.length - j ∧ wAll ((l : Bs).take j) ⟨T, [], []⟩ = some s2 ∧ room s2 ≤ 800000 ∧ IsW W0 wr s2)
          case atStart => exact ⟨0, _, rfl, Nat.zero_le _, rfl, rfl, HRR.out, HNEW.out⟩
          case round =>
            obtain ⟨j, s2, rfl, hj, hg, hall, hr2, hW2⟩ := hrel
            have HALL := Lib.hid hall; have HW2 := Lib.hid hW2; have HG := Lib.hid hg
            clear hall hW2 hg
            by_cases hlt : j < l.length
            · have hlt' : (j : Int) < l.length := by omega
              have hltL : j < (l : Bs).length := hlt
              have HF := field_any W0 wr s2 ((l : Bs)[j]) hr2 HW2.out
              rw [HSZ.out] at HF
              have HF := Lib.hid HF
              go_wp2_with fail
              refine HF.out.mono ?_; rintro e w2 (⟨s3, hs3, rfl, hW3⟩ | ⟨hs3, rfl, hB⟩)
              · have HW3 := Lib.hid hW3
                have HN3 := Lib.hid (wAll_next hltL HALL.out hs3)
                have hr3 : room s3 ≤ 800000 := Nat.le_trans (field_room hs3) hr2
                clear hW3 hs3
                go_wp2_with fail
                go_roundg (l.length - (j + 1))
                case measure => have := HG.out; omega
                case rel => exact ⟨j + 1, s3, by go_num, by omega, rfl, HN3.out, hr3, HW3.out⟩
              · have HN3 := Lib.hid (wAll_fail hltL HALL.out hs3)
                clear hs3
                go_wp2_with fail
                have kk := HK.out
                have b1 : (w2).cell? ⟨w.heap.size + 1, 0, none⟩ = some (.string { data := #[] }) := (hB.cell (p := ⟨w.heap.size + 1, 0, none⟩) (by show w.heap.size + 1 < _; rw [HSZ.out]; omega)).trans kk.1
                have b2 : (w2).cell? ⟨w.heap.size + 1 + 1, 0, none⟩ = some (.int .i64 0) := (hB.cell (p := ⟨w.heap.size + 1 + 1, 0, none⟩) (by show w.heap.size + 1 + 1 < _; rw [HSZ.out]; omega)).trans kk.2.1
                have b3 : (w2).frozen? ⟨w.heap.size + 1, 0, none⟩ = false := (hB.frozen (p := ⟨w.heap.size + 1, 0, none⟩) (by show w.heap.size + 1 < _; rw [HSZ.out]; omega)).trans kk.2.2.1
                have b4 : (w2).frozen? ⟨w.heap.size + 1 + 1, 0, none⟩ = false := (hB.frozen (p := ⟨w.heap.size + 1 + 1, 0, none⟩) (by show w.heap.size + 1 + 1 < _; rw [HSZ.out]; omega)).trans kk.2.2.2
                clear kk
                unfold errV
                refine leaves_cons (f := 43) (args := #[.pointer (some ⟨w.heap.size + 1, 0, none⟩), .pointer (some ⟨w.heap.size + 1 + 1, 0, none⟩)]) (by simp) (by simp [go_sem]) ?_
                refine (catch_written (w.heap.size + 1) (w.heap.size + 1 + 1) _ _ _ _ _ _ (by omega) b1 b2 b3 b4).mono ?_
                rintro e u' w'' ⟨rfl, rfl, rfl⟩
                have HNO := Lib.hid (show R = none from HR.out.trans (by rw [HN3.out]; rfl))
                have HBB := Lib.hid ((HB.out.trans (hB.mono (by rw [HSZ.out]; omega))))
                rw [HNO.out]
                simp [Leaves, settle, results, Tryz.results29, go_sem, b1, b2, writtenV]
                exact (HBB.out.setCell (by show w.heap.size ≤ w.heap.size + 1; omega) _).setCell (by show w.heap.size ≤ w.heap.size + 1 + 1; omega) _
            · obtain rfl : j = l.length := by omega
              have HALL := Lib.hid (show wAll l ⟨T, [], []⟩ = some s2 by have h := HALL.out; rw [show ((l : Bs).take l.length) = l from by first | exact List.take_length | rfl] at h; exact h)
              have HDN := Lib.hid (show R = wDone s2 by rw [HR.out, HALL.out]; rfl)
              obtain ⟨tv2, nv2, bv2, hW⟩ := HW2.out
              obtain ⟨ta, tn, tc, rfl, htl, htn, htc, _⟩ := hW.texts
              obtain ⟨na, nm, nc, rfl, hnl, hnm, hnc, _⟩ := hW.nums
              obtain ⟨ba, bc, rfl⟩ := ownsRow_form hW.body
              have c0 := hW.c0
              have c1 := hW.c1
              have c2 := hW.c2
              rw [HSZ.out] at c0 c1 c2
              have hcv : (convert 65 9 (.slice ba s2.B.length bc)).run Tryz.prog wr = .ok (.string ⟨s2.B.toArray⟩) wr := own_text hW.body rfl
              have HWB := Lib.hid hW.below
              have HTL := Lib.hid htl; have HNL := Lib.hid hnl
              clear hW htl hnl
              by_cases ht0 : s2.T = []
              · obtain rfl : tn = 0 := by rw [← HTL.out, ht0]; rfl
                by_cases hn0 : s2.N = []
                · obtain rfl : nm = 0 := by rw [← HNL.out, hn0]; rfl
                  have HDN := Lib.hid (show R = some s2.B by rw [HDN.out, wDone, if_pos ⟨ht0, hn0⟩])
                  clear ht0 hn0
                  go_wp2_with fail
                  refine (demand_ok _).mono ?_; rintro e w1 ⟨rfl, rfl⟩
                  have kk := HK.out
                  have b1 : (wr).cell? ⟨w.heap.size + 1, 0, none⟩ = some (.string { data := #[] }) := (HWB.out.cell (p := ⟨w.heap.size + 1, 0, none⟩) (by show w.heap.size + 1 < _; rw [HSZ.out]; omega)).trans kk.1
                  have b2 : (wr).cell? ⟨w.heap.size + 1 + 1, 0, none⟩ = some (.int .i64 0) := (HWB.out.cell (p := ⟨w.heap.size + 1 + 1, 0, none⟩) (by show w.heap.size + 1 + 1 < _; rw [HSZ.out]; omega)).trans kk.2.1
                  have b3 : (wr).frozen? ⟨w.heap.size + 1, 0, none⟩ = false := (HWB.out.frozen (p := ⟨w.heap.size + 1, 0, none⟩) (by show w.heap.size + 1 < _; rw [HSZ.out]; omega)).trans kk.2.2.1
                  have b4 : (wr).frozen? ⟨w.heap.size + 1 + 1, 0, none⟩ = false := (HWB.out.frozen (p := ⟨w.heap.size + 1 + 1, 0, none⟩) (by show w.heap.size + 1 + 1 < _; rw [HSZ.out]; omega)).trans kk.2.2.2
                  clear kk
                  go_wp2_with fail
                  refine leaves_cons (f := 43) (args := #[.pointer (some ⟨w.heap.size + 1, 0, none⟩), .pointer (some ⟨w.heap.size + 1 + 1, 0, none⟩)]) (by simp) (by simp [go_sem]) ?_
                  refine (catch_idleM _ _ _).mono ?_
                  rintro e u' w'' ⟨rfl, rfl, rfl⟩
                  have HBB := Lib.hid ((HB.out.trans (HWB.out.mono (by rw [HSZ.out]; omega))))
                  rw [HDN.out]
                  simp [Leaves, settle, results, Tryz.results29, go_sem, b1, b2, writtenV]
                  exact (HBB.out.setCell (by show w.heap.size ≤ w.heap.size + 1; omega) _).setCell (by show w.heap.size ≤ w.heap.size + 1 + 1; omega) _
                · have hne : ((nm : Int) == 0) = false := by
                    cases hb : ((nm : Int) == 0) with
                    | false => rfl
                    | true => exact absurd (List.length_eq_zero_iff.1 (by rw [HNL.out]; have := eq_of_beq hb; omega)) hn0
                  have HDN := Lib.hid (show R = none by rw [HDN.out, wDone, if_neg (fun h => hn0 h.2)])
                  clear ht0 hn0
                  go_wp2_with fail
                  refine (demand_no _).mono ?_; rintro e w1 ⟨rfl, rfl⟩
                  go_wp2_with fail
                  have kk := HK.out
                  have b1 : (wr).cell? ⟨w.heap.size + 1, 0, none⟩ = some (.string { data := #[] }) := (HWB.out.cell (p := ⟨w.heap.size + 1, 0, none⟩) (by show w.heap.size + 1 < _; rw [HSZ.out]; omega)).trans kk.1
                  have b2 : (wr).cell? ⟨w.heap.size + 1 + 1, 0, none⟩ = some (.int .i64 0) := (HWB.out.cell (p := ⟨w.heap.size + 1 + 1, 0, none⟩) (by show w.heap.size + 1 + 1 < _; rw [HSZ.out]; omega)).trans kk.2.1
                  have b3 : (wr).frozen? ⟨w.heap.size + 1, 0, none⟩ = false := (HWB.out.frozen (p := ⟨w.heap.size + 1, 0, none⟩) (by show w.heap.size + 1 < _; rw [HSZ.out]; omega)).trans kk.2.2.1
                  have b4 : (wr).frozen? ⟨w.heap.size + 1 + 1, 0, none⟩ = false := (HWB.out.frozen (p := ⟨w.heap.size + 1 + 1, 0, none⟩) (by show w.heap.size + 1 + 1 < _; rw [HSZ.out]; omega)).trans kk.2.2.2
                  clear kk
                  unfold errV
                  refine leaves_cons (f := 43) (args := #[.pointer (some ⟨w.heap.size + 1, 0, none⟩), .pointer (some ⟨w.heap.size + 1 + 1, 0, none⟩)]) (by simp) (by simp [go_sem]) ?_
                  refine (catch_written (w.heap.size + 1) (w.heap.size + 1 + 1) _ _ _ _ _ _ (by omega) b1 b2 b3 b4).mono ?_
                  rintro e u' w'' ⟨rfl, rfl, rfl⟩
                  have HNO := Lib.hid (show R = none from HDN.out)
                  have HBB := Lib.hid ((HB.out.trans (HWB.out.mono (by rw [HSZ.out]; omega))))
                  rw [HNO.out]
                  simp [Leaves, settle, results, Tryz.results29, go_sem, b1, b2, writtenV]
                  exact (HBB.out.setCell (by show w.heap.size ≤ w.heap.size + 1; omega) _).setCell (by show w.heap.size ≤ w.heap.size + 1 + 1; omega) _
              · have hne : ((tn : Int) == 0) = false := by
                  cases hb : ((tn : Int) == 0) with
                  | false => rfl
                  | true => exact absurd (List.length_eq_zero_iff.1 (by rw [HTL.out]; have := eq_of_beq hb; omega)) ht0
                have HDN := Lib.hid (show R = none by rw [HDN.out, wDone, if_neg (fun h => ht0 h.1)])
                clear ht0
                go_wp2_with fail
                refine (demand_no _).mono ?_; rintro e w1 ⟨rfl, rfl⟩
                go_wp2_with fail
                have kk := HK.out
                have b1 : (wr).cell? ⟨w.heap.size + 1, 0, none⟩ = some (.string { data := #[] }) := (HWB.out.cell (p := ⟨w.heap.size + 1, 0, none⟩) (by show w.heap.size + 1 < _; rw [HSZ.out]; omega)).trans kk.1
                have b2 : (wr).cell? ⟨w.heap.size + 1 + 1, 0, none⟩ = some (.int .i64 0) := (HWB.out.cell (p := ⟨w.heap.size + 1 + 1, 0, none⟩) (by show w.heap.size + 1 + 1 < _; rw [HSZ.out]; omega)).trans kk.2.1
                have b3 : (wr).frozen? ⟨w.heap.size + 1, 0, none⟩ = false := (HWB.out.frozen (p := ⟨w.heap.size + 1, 0, none⟩) (by show w.heap.size + 1 < _; rw [HSZ.out]; omega)).trans kk.2.2.1
                have b4 : (wr).frozen? ⟨w.heap.size + 1 + 1, 0, none⟩ = false := (HWB.out.frozen (p := ⟨w.heap.size + 1 + 1, 0, none⟩) (by show w.heap.size + 1 + 1 < _; rw [HSZ.out]; omega)).trans kk.2.2.2
                clear kk
                unfold errV
                refine leaves_cons (f := 43) (args := #[.pointer (some ⟨w.heap.size + 1, 0, none⟩), .pointer (some ⟨w.heap.size + 1 + 1, 0, none⟩)]) (by simp) (by simp [go_sem]) ?_
                refine (catch_written (w.heap.size + 1) (w.heap.size + 1 + 1) _ _ _ _ _ _ (by omega) b1 b2 b3 b4).mono ?_
                rintro e u' w'' ⟨rfl, rfl, rfl⟩
                have HNO := Lib.hid (show R = none from HDN.out)
                have HBB := Lib.hid ((HB.out.trans (HWB.out.mono (by rw [HSZ.out]; omega))))
                rw [HNO.out]
                simp [Leaves, settle, results, Tryz.results29, go_sem, b1, b2, writtenV]
                exact (HBB.out.setCell (by show w.heap.size ≤ w.heap.size + 1; omega) _).setCell (by show w.heap.size ≤ w.heap.size + 1 + 1; omega) _
        | cons n0 ns =>
          have hnp : (0 : Int) < nn := by have : ns.length + 1 = nn := hln; omega
          rcases hcell with hc | ⟨g, off, rfl, hg, hcl⟩
          · cases hc
          have d1 : w.cell? ⟨g, off, none⟩ = some (.int .i64 n0) := hcl 0 n0 rfl
          have d0 : (((w.alloc (.cells #[.int .u8 0, .slice at' nt ct, .slice (some ⟨g, off, none⟩) nn cn] 54)).alloc (.cells #[.string { data := #[] }] 9)).alloc (.cells #[.int .i64 0] 40)).cell? ⟨g, off, none⟩ = some (.int .i64 n0) := by
            rw [← HE.out]; exact (HB.out.cell (p := ⟨g, off, none⟩) hg).trans d1
          have hlt0 : ns.length + 1 = nn := hln
          clear hcl hln
          by_cases hn : n0 = 80877102
          · subst hn
            have HLR := Lib.hid (show R = (wAll [105, 105, 105] ⟨T, 80877102 :: ns, []⟩).bind wDone from HR.out.trans (by rw [h0]; exact written_cancel rfl))
            clear h0
            go_wp2_with fail
            refine (demand_ok _).mono ?_; rintro e w1 ⟨rfl, rfl⟩
            go_wp2_with fail
            rw [← HE.out]
            have HR := Lib.hid (show R = (wAll [105, 105, 105] ⟨T, (80877102 :: ns), []⟩).bind wDone from HLR.out)
            clear HLR
            go_loopg [48] 3 (fun g i wr => ∃ (j : Nat) (s2 : WS), i = .int .i64 j ∧ j ≤ 3 ∧ g = 3 - j ∧ wAll (([105, 105, 105] : Bs).take j) ⟨T, (80877102 :: ns), []⟩ = some s2 ∧ room s2 ≤ 800000 ∧ IsW W0 wr s2)
            case atStart => exact ⟨0, _, rfl, Nat.zero_le _, rfl, rfl, HRR.out, HNEW.out⟩
            case round =>
              obtain ⟨j, s2, rfl, hj, hg, hall, hr2, hW2⟩ := hrel
              have HALL := Lib.hid hall; have HW2 := Lib.hid hW2; have HG := Lib.hid hg
              clear hall hW2 hg
              by_cases hlt : j < 3
              · have hlt' : (j : Int) < 3 := by omega
                have hltL : j < ([105, 105, 105] : Bs).length := hlt
                have HF := field_any W0 wr s2 (([105, 105, 105] : Bs)[j]) hr2 HW2.out
                rw [HSZ.out] at HF
                have HF := Lib.hid HF
                go_wp2_with fail
                refine HF.out.mono ?_; rintro e w2 (⟨s3, hs3, rfl, hW3⟩ | ⟨hs3, rfl, hB⟩)
                · have HW3 := Lib.hid hW3
                  have HN3 := Lib.hid (wAll_next hltL HALL.out hs3)
                  have hr3 : room s3 ≤ 800000 := Nat.le_trans (field_room hs3) hr2
                  clear hW3 hs3
                  go_wp2_with fail
                  go_roundg (3 - (j + 1))
                  case measure => have := HG.out; omega
                  case rel => exact ⟨j + 1, s3, by go_num, by omega, rfl, HN3.out, hr3, HW3.out⟩
                · have HN3 := Lib.hid (wAll_fail hltL HALL.out hs3)
                  clear hs3
                  go_wp2_with fail
                  have kk := HK.out
                  have b1 : (w2).cell? ⟨w.heap.size + 1, 0, none⟩ = some (.string { data := #[] }) := (hB.cell (p := ⟨w.heap.size + 1, 0, none⟩) (by show w.heap.size + 1 < _; rw [HSZ.out]; omega)).trans kk.1
                  have b2 : (w2).cell? ⟨w.heap.size + 1 + 1, 0, none⟩ = some (.int .i64 0) := (hB.cell (p := ⟨w.heap.size + 1 + 1, 0, none⟩) (by show w.heap.size + 1 + 1 < _; rw [HSZ.out]; omega)).trans kk.2.1
                  have b3 : (w2).frozen? ⟨w.heap.size + 1, 0, none⟩ = false := (hB.frozen (p := ⟨w.heap.size + 1, 0, none⟩) (by show w.heap.size + 1 < _; rw [HSZ.out]; omega)).trans kk.2.2.1
                  have b4 : (w2).frozen? ⟨w.heap.size + 1 + 1, 0, none⟩ = false := (hB.frozen (p := ⟨w.heap.size + 1 + 1, 0, none⟩) (by show w.heap.size + 1 + 1 < _; rw [HSZ.out]; omega)).trans kk.2.2.2
                  clear kk
                  unfold errV
                  refine leaves_cons (f := 43) (args := #[.pointer (some ⟨w.heap.size + 1, 0, none⟩), .pointer (some ⟨w.heap.size + 1 + 1, 0, none⟩)]) (by simp) (by simp [go_sem]) ?_
                  refine (catch_written (w.heap.size + 1) (w.heap.size + 1 + 1) _ _ _ _ _ _ (by omega) b1 b2 b3 b4).mono ?_
                  rintro e u' w'' ⟨rfl, rfl, rfl⟩
                  have HNO := Lib.hid (show R = none from HR.out.trans (by rw [HN3.out]; rfl))
                  have HBB := Lib.hid ((HB.out.trans (hB.mono (by rw [HSZ.out]; omega))))
                  rw [HNO.out]
                  simp [Leaves, settle, results, Tryz.results29, go_sem, b1, b2, writtenV]
                  exact (HBB.out.setCell (by show w.heap.size ≤ w.heap.size + 1; omega) _).setCell (by show w.heap.size ≤ w.heap.size + 1 + 1; omega) _
              · obtain rfl : j = 3 := by omega
                have HALL := Lib.hid (show wAll [105, 105, 105] ⟨T, (80877102 :: ns), []⟩ = some s2 by have h := HALL.out; rw [show (([105, 105, 105] : Bs).take 3) = [105, 105, 105] from by first | exact List.take_length | rfl] at h; exact h)
                have HDN := Lib.hid (show R = wDone s2 by rw [HR.out, HALL.out]; rfl)
                obtain ⟨tv2, nv2, bv2, hW⟩ := HW2.out
                obtain ⟨ta, tn, tc, rfl, htl, htn, htc, _⟩ := hW.texts
                obtain ⟨na, nm, nc, rfl, hnl, hnm, hnc, _⟩ := hW.nums
                obtain ⟨ba, bc, rfl⟩ := ownsRow_form hW.body
                have c0 := hW.c0
                have c1 := hW.c1
                have c2 := hW.c2
                rw [HSZ.out] at c0 c1 c2
                have hcv : (convert 65 9 (.slice ba s2.B.length bc)).run Tryz.prog wr = .ok (.string ⟨s2.B.toArray⟩) wr := own_text hW.body rfl
                have HWB := Lib.hid hW.below
                have HTL := Lib.hid htl; have HNL := Lib.hid hnl
                clear hW htl hnl
                by_cases ht0 : s2.T = []
                · obtain rfl : tn = 0 := by rw [← HTL.out, ht0]; rfl
                  by_cases hn0 : s2.N = []
                  · obtain rfl : nm = 0 := by rw [← HNL.out, hn0]; rfl
                    have HDN := Lib.hid (show R = some s2.B by rw [HDN.out, wDone, if_pos ⟨ht0, hn0⟩])
                    clear ht0 hn0
                    go_wp2_with fail
                    refine (demand_ok _).mono ?_; rintro e w1 ⟨rfl, rfl⟩
                    have kk := HK.out
                    have b1 : (wr).cell? ⟨w.heap.size + 1, 0, none⟩ = some (.string { data := #[] }) := (HWB.out.cell (p := ⟨w.heap.size + 1, 0, none⟩) (by show w.heap.size + 1 < _; rw [HSZ.out]; omega)).trans kk.1
                    have b2 : (wr).cell? ⟨w.heap.size + 1 + 1, 0, none⟩ = some (.int .i64 0) := (HWB.out.cell (p := ⟨w.heap.size + 1 + 1, 0, none⟩) (by show w.heap.size + 1 + 1 < _; rw [HSZ.out]; omega)).trans kk.2.1
                    have b3 : (wr).frozen? ⟨w.heap.size + 1, 0, none⟩ = false := (HWB.out.frozen (p := ⟨w.heap.size + 1, 0, none⟩) (by show w.heap.size + 1 < _; rw [HSZ.out]; omega)).trans kk.2.2.1
                    have b4 : (wr).frozen? ⟨w.heap.size + 1 + 1, 0, none⟩ = false := (HWB.out.frozen (p := ⟨w.heap.size + 1 + 1, 0, none⟩) (by show w.heap.size + 1 + 1 < _; rw [HSZ.out]; omega)).trans kk.2.2.2
                    clear kk
                    go_wp2_with fail
                    refine leaves_cons (f := 43) (args := #[.pointer (some ⟨w.heap.size + 1, 0, none⟩), .pointer (some ⟨w.heap.size + 1 + 1, 0, none⟩)]) (by simp) (by simp [go_sem]) ?_
                    refine (catch_idleM _ _ _).mono ?_
                    rintro e u' w'' ⟨rfl, rfl, rfl⟩
                    have HBB := Lib.hid ((HB.out.trans (HWB.out.mono (by rw [HSZ.out]; omega))))
                    rw [HDN.out]
                    simp [Leaves, settle, results, Tryz.results29, go_sem, b1, b2, writtenV]
                    exact (HBB.out.setCell (by show w.heap.size ≤ w.heap.size + 1; omega) _).setCell (by show w.heap.size ≤ w.heap.size + 1 + 1; omega) _
                  · have hne : ((nm : Int) == 0) = false := by
                      cases hb : ((nm : Int) == 0) with
                      | false => rfl
                      | true => exact absurd (List.length_eq_zero_iff.1 (by rw [HNL.out]; have := eq_of_beq hb; omega)) hn0
                    have HDN := Lib.hid (show R = none by rw [HDN.out, wDone, if_neg (fun h => hn0 h.2)])
                    clear ht0 hn0
                    go_wp2_with fail
                    refine (demand_no _).mono ?_; rintro e w1 ⟨rfl, rfl⟩
                    go_wp2_with fail
                    have kk := HK.out
                    have b1 : (wr).cell? ⟨w.heap.size + 1, 0, none⟩ = some (.string { data := #[] }) := (HWB.out.cell (p := ⟨w.heap.size + 1, 0, none⟩) (by show w.heap.size + 1 < _; rw [HSZ.out]; omega)).trans kk.1
                    have b2 : (wr).cell? ⟨w.heap.size + 1 + 1, 0, none⟩ = some (.int .i64 0) := (HWB.out.cell (p := ⟨w.heap.size + 1 + 1, 0, none⟩) (by show w.heap.size + 1 + 1 < _; rw [HSZ.out]; omega)).trans kk.2.1
                    have b3 : (wr).frozen? ⟨w.heap.size + 1, 0, none⟩ = false := (HWB.out.frozen (p := ⟨w.heap.size + 1, 0, none⟩) (by show w.heap.size + 1 < _; rw [HSZ.out]; omega)).trans kk.2.2.1
                    have b4 : (wr).frozen? ⟨w.heap.size + 1 + 1, 0, none⟩ = false := (HWB.out.frozen (p := ⟨w.heap.size + 1 + 1, 0, none⟩) (by show w.heap.size + 1 + 1 < _; rw [HSZ.out]; omega)).trans kk.2.2.2
                    clear kk
                    unfold errV
                    refine leaves_cons (f := 43) (args := #[.pointer (some ⟨w.heap.size + 1, 0, none⟩), .pointer (some ⟨w.heap.size + 1 + 1, 0, none⟩)]) (by simp) (by simp [go_sem]) ?_
                    refine (catch_written (w.heap.size + 1) (w.heap.size + 1 + 1) _ _ _ _ _ _ (by omega) b1 b2 b3 b4).mono ?_
                    rintro e u' w'' ⟨rfl, rfl, rfl⟩
                    have HNO := Lib.hid (show R = none from HDN.out)
                    have HBB := Lib.hid ((HB.out.trans (HWB.out.mono (by rw [HSZ.out]; omega))))
                    rw [HNO.out]
                    simp [Leaves, settle, results, Tryz.results29, go_sem, b1, b2, writtenV]
                    exact (HBB.out.setCell (by show w.heap.size ≤ w.heap.size + 1; omega) _).setCell (by show w.heap.size ≤ w.heap.size + 1 + 1; omega) _
                · have hne : ((tn : Int) == 0) = false := by
                    cases hb : ((tn : Int) == 0) with
                    | false => rfl
                    | true => exact absurd (List.length_eq_zero_iff.1 (by rw [HTL.out]; have := eq_of_beq hb; omega)) ht0
                  have HDN := Lib.hid (show R = none by rw [HDN.out, wDone, if_neg (fun h => ht0 h.1)])
                  clear ht0
                  go_wp2_with fail
                  refine (demand_no _).mono ?_; rintro e w1 ⟨rfl, rfl⟩
                  go_wp2_with fail
                  have kk := HK.out
                  have b1 : (wr).cell? ⟨w.heap.size + 1, 0, none⟩ = some (.string { data := #[] }) := (HWB.out.cell (p := ⟨w.heap.size + 1, 0, none⟩) (by show w.heap.size + 1 < _; rw [HSZ.out]; omega)).trans kk.1
                  have b2 : (wr).cell? ⟨w.heap.size + 1 + 1, 0, none⟩ = some (.int .i64 0) := (HWB.out.cell (p := ⟨w.heap.size + 1 + 1, 0, none⟩) (by show w.heap.size + 1 + 1 < _; rw [HSZ.out]; omega)).trans kk.2.1
                  have b3 : (wr).frozen? ⟨w.heap.size + 1, 0, none⟩ = false := (HWB.out.frozen (p := ⟨w.heap.size + 1, 0, none⟩) (by show w.heap.size + 1 < _; rw [HSZ.out]; omega)).trans kk.2.2.1
                  have b4 : (wr).frozen? ⟨w.heap.size + 1 + 1, 0, none⟩ = false := (HWB.out.frozen (p := ⟨w.heap.size + 1 + 1, 0, none⟩) (by show w.heap.size + 1 + 1 < _; rw [HSZ.out]; omega)).trans kk.2.2.2
                  clear kk
                  unfold errV
                  refine leaves_cons (f := 43) (args := #[.pointer (some ⟨w.heap.size + 1, 0, none⟩), .pointer (some ⟨w.heap.size + 1 + 1, 0, none⟩)]) (by simp) (by simp [go_sem]) ?_
                  refine (catch_written (w.heap.size + 1) (w.heap.size + 1 + 1) _ _ _ _ _ _ (by omega) b1 b2 b3 b4).mono ?_
                  rintro e u' w'' ⟨rfl, rfl, rfl⟩
                  have HNO := Lib.hid (show R = none from HDN.out)
                  have HBB := Lib.hid ((HB.out.trans (HWB.out.mono (by rw [HSZ.out]; omega))))
                  rw [HNO.out]
                  simp [Leaves, settle, results, Tryz.results29, go_sem, b1, b2, writtenV]
                  exact (HBB.out.setCell (by show w.heap.size ≤ w.heap.size + 1; omega) _).setCell (by show w.heap.size ≤ w.heap.size + 1 + 1; omega) _
          · have hnb : (n0 == 80877102) = false := by simpa using hn
            have HLR := Lib.hid (HR.out.trans (written_some HL.out (by simp [hn])))
            clear h0 hn
            go_wp2_with fail
            refine (demand_ok _).mono ?_; rintro e w1 ⟨rfl, rfl⟩
            go_wp2_with fail
            rw [← HE.out]
            have HR := Lib.hid (show R = (wAll l ⟨T, (n0 :: ns), []⟩).bind wDone from HLR.out)
            clear HLR
            go_loopg [48] l.length (fun g i wr => ∃ (j : Nat) (s2 : WS), i = .int .i64 j ∧ j ≤ l.length ∧ g = l.length - j ∧ wAll ((l : Bs).take j) ⟨T, (n0 :: ns), []⟩ = some s2 ∧ room s2 ≤ 800000 ∧ IsW W0 wr s2)
            case atStart => exact ⟨0, _, rfl, Nat.zero_le _, rfl, rfl, HRR.out, HNEW.out⟩
            case round =>
              obtain ⟨j, s2, rfl, hj, hg, hall, hr2, hW2⟩ := hrel
              have HALL := Lib.hid hall; have HW2 := Lib.hid hW2; have HG := Lib.hid hg
              clear hall hW2 hg
              by_cases hlt : j < l.length
              · have hlt' : (j : Int) < l.length := by omega
                have hltL : j < (l : Bs).length := hlt
                have HF := field_any W0 wr s2 ((l : Bs)[j]) hr2 HW2.out
                rw [HSZ.out] at HF
                have HF := Lib.hid HF
                go_wp2_with fail
                refine HF.out.mono ?_; rintro e w2 (⟨s3, hs3, rfl, hW3⟩ | ⟨hs3, rfl, hB⟩)
                · have HW3 := Lib.hid hW3
                  have HN3 := Lib.hid (wAll_next hltL HALL.out hs3)
                  have hr3 : room s3 ≤ 800000 := Nat.le_trans (field_room hs3) hr2
                  clear hW3 hs3
                  go_wp2_with fail
                  go_roundg (l.length - (j + 1))
                  case measure => have := HG.out; omega
                  case rel => exact ⟨j + 1, s3, by go_num, by omega, rfl, HN3.out, hr3, HW3.out⟩
                · have HN3 := Lib.hid (wAll_fail hltL HALL.out hs3)
                  clear hs3
                  go_wp2_with fail
                  have kk := HK.out
                  have b1 : (w2).cell? ⟨w.heap.size + 1, 0, none⟩ = some (.string { data := #[] }) := (hB.cell (p := ⟨w.heap.size + 1, 0, none⟩) (by show w.heap.size + 1 < _; rw [HSZ.out]; omega)).trans kk.1
                  have b2 : (w2).cell? ⟨w.heap.size + 1 + 1, 0, none⟩ = some (.int .i64 0) := (hB.cell (p := ⟨w.heap.size + 1 + 1, 0, none⟩) (by show w.heap.size + 1 + 1 < _; rw [HSZ.out]; omega)).trans kk.2.1
                  have b3 : (w2).frozen? ⟨w.heap.size + 1, 0, none⟩ = false := (hB.frozen (p := ⟨w.heap.size + 1, 0, none⟩) (by show w.heap.size + 1 < _; rw [HSZ.out]; omega)).trans kk.2.2.1
                  have b4 : (w2).frozen? ⟨w.heap.size + 1 + 1, 0, none⟩ = false := (hB.frozen (p := ⟨w.heap.size + 1 + 1, 0, none⟩) (by show w.heap.size + 1 + 1 < _; rw [HSZ.out]; omega)).trans kk.2.2.2
                  clear kk
                  unfold errV
                  refine leaves_cons (f := 43) (args := #[.pointer (some ⟨w.heap.size + 1, 0, none⟩), .pointer (some ⟨w.heap.size + 1 + 1, 0, none⟩)]) (by simp) (by simp [go_sem]) ?_
                  refine (catch_written (w.heap.size + 1) (w.heap.size + 1 + 1) _ _ _ _ _ _ (by omega) b1 b2 b3 b4).mono ?_
                  rintro e u' w'' ⟨rfl, rfl, rfl⟩
                  have HNO := Lib.hid (show R = none from HR.out.trans (by rw [HN3.out]; rfl))
                  have HBB := Lib.hid ((HB.out.trans (hB.mono (by rw [HSZ.out]; omega))))
                  rw [HNO.out]
                  simp [Leaves, settle, results, Tryz.results29, go_sem, b1, b2, writtenV]
                  exact (HBB.out.setCell (by show w.heap.size ≤ w.heap.size + 1; omega) _).setCell (by show w.heap.size ≤ w.heap.size + 1 + 1; omega) _
              · obtain rfl : j = l.length := by omega
                have HALL := Lib.hid (show wAll l ⟨T, (n0 :: ns), []⟩ = some s2 by have h := HALL.out; rw [show ((l : Bs).take l.length) = l from by first | exact List.take_length | rfl] at h; exact h)
                have HDN := Lib.hid (show R = wDone s2 by rw [HR.out, HALL.out]; rfl)
                obtain ⟨tv2, nv2, bv2, hW⟩ := HW2.out
                obtain ⟨ta, tn, tc, rfl, htl, htn, htc, _⟩ := hW.texts
                obtain ⟨na, nm, nc, rfl, hnl, hnm, hnc, _⟩ := hW.nums
                obtain ⟨ba, bc, rfl⟩ := ownsRow_form hW.body
                have c0 := hW.c0
                have c1 := hW.c1
                have c2 := hW.c2
                rw [HSZ.out] at c0 c1 c2
                have hcv : (convert 65 9 (.slice ba s2.B.length bc)).run Tryz.prog wr = .ok (.string ⟨s2.B.toArray⟩) wr := own_text hW.body rfl
                have HWB := Lib.hid hW.below
                have HTL := Lib.hid htl; have HNL := Lib.hid hnl
                clear hW htl hnl
                by_cases ht0 : s2.T = []
                · obtain rfl : tn = 0 := by rw [← HTL.out, ht0]; rfl
                  by_cases hn0 : s2.N = []
                  · obtain rfl : nm = 0 := by rw [← HNL.out, hn0]; rfl
                    have HDN := Lib.hid (show R = some s2.B by rw [HDN.out, wDone, if_pos ⟨ht0, hn0⟩])
                    clear ht0 hn0
                    go_wp2_with fail
                    refine (demand_ok _).mono ?_; rintro e w1 ⟨rfl, rfl⟩
                    have kk := HK.out
                    have b1 : (wr).cell? ⟨w.heap.size + 1, 0, none⟩ = some (.string { data := #[] }) := (HWB.out.cell (p := ⟨w.heap.size + 1, 0, none⟩) (by show w.heap.size + 1 < _; rw [HSZ.out]; omega)).trans kk.1
                    have b2 : (wr).cell? ⟨w.heap.size + 1 + 1, 0, none⟩ = some (.int .i64 0) := (HWB.out.cell (p := ⟨w.heap.size + 1 + 1, 0, none⟩) (by show w.heap.size + 1 + 1 < _; rw [HSZ.out]; omega)).trans kk.2.1
                    have b3 : (wr).frozen? ⟨w.heap.size + 1, 0, none⟩ = false := (HWB.out.frozen (p := ⟨w.heap.size + 1, 0, none⟩) (by show w.heap.size + 1 < _; rw [HSZ.out]; omega)).trans kk.2.2.1
                    have b4 : (wr).frozen? ⟨w.heap.size + 1 + 1, 0, none⟩ = false := (HWB.out.frozen (p := ⟨w.heap.size + 1 + 1, 0, none⟩) (by show w.heap.size + 1 + 1 < _; rw [HSZ.out]; omega)).trans kk.2.2.2
                    clear kk
                    go_wp2_with fail
                    refine leaves_cons (f := 43) (args := #[.pointer (some ⟨w.heap.size + 1, 0, none⟩), .pointer (some ⟨w.heap.size + 1 + 1, 0, none⟩)]) (by simp) (by simp [go_sem]) ?_
                    refine (catch_idleM _ _ _).mono ?_
                    rintro e u' w'' ⟨rfl, rfl, rfl⟩
                    have HBB := Lib.hid ((HB.out.trans (HWB.out.mono (by rw [HSZ.out]; omega))))
                    rw [HDN.out]
                    simp [Leaves, settle, results, Tryz.results29, go_sem, b1, b2, writtenV]
                    exact (HBB.out.setCell (by show w.heap.size ≤ w.heap.size + 1; omega) _).setCell (by show w.heap.size ≤ w.heap.size + 1 + 1; omega) _
                  · have hne : ((nm : Int) == 0) = false := by
                      cases hb : ((nm : Int) == 0) with
                      | false => rfl
                      | true => exact absurd (List.length_eq_zero_iff.1 (by rw [HNL.out]; have := eq_of_beq hb; omega)) hn0
                    have HDN := Lib.hid (show R = none by rw [HDN.out, wDone, if_neg (fun h => hn0 h.2)])
                    clear ht0 hn0
                    go_wp2_with fail
                    refine (demand_no _).mono ?_; rintro e w1 ⟨rfl, rfl⟩
                    go_wp2_with fail
                    have kk := HK.out
                    have b1 : (wr).cell? ⟨w.heap.size + 1, 0, none⟩ = some (.string { data := #[] }) := (HWB.out.cell (p := ⟨w.heap.size + 1, 0, none⟩) (by show w.heap.size + 1 < _; rw [HSZ.out]; omega)).trans kk.1
                    have b2 : (wr).cell? ⟨w.heap.size + 1 + 1, 0, none⟩ = some (.int .i64 0) := (HWB.out.cell (p := ⟨w.heap.size + 1 + 1, 0, none⟩) (by show w.heap.size + 1 + 1 < _; rw [HSZ.out]; omega)).trans kk.2.1
                    have b3 : (wr).frozen? ⟨w.heap.size + 1, 0, none⟩ = false := (HWB.out.frozen (p := ⟨w.heap.size + 1, 0, none⟩) (by show w.heap.size + 1 < _; rw [HSZ.out]; omega)).trans kk.2.2.1
                    have b4 : (wr).frozen? ⟨w.heap.size + 1 + 1, 0, none⟩ = false := (HWB.out.frozen (p := ⟨w.heap.size + 1 + 1, 0, none⟩) (by show w.heap.size + 1 + 1 < _; rw [HSZ.out]; omega)).trans kk.2.2.2
                    clear kk
                    unfold errV
                    refine leaves_cons (f := 43) (args := #[.pointer (some ⟨w.heap.size + 1, 0, none⟩), .pointer (some ⟨w.heap.size + 1 + 1, 0, none⟩)]) (by simp) (by simp [go_sem]) ?_
                    refine (catch_written (w.heap.size + 1) (w.heap.size + 1 + 1) _ _ _ _ _ _ (by omega) b1 b2 b3 b4).mono ?_
                    rintro e u' w'' ⟨rfl, rfl, rfl⟩
                    have HNO := Lib.hid (show R = none from HDN.out)
                    have HBB := Lib.hid ((HB.out.trans (HWB.out.mono (by rw [HSZ.out]; omega))))
                    rw [HNO.out]
                    simp [Leaves, settle, results, Tryz.results29, go_sem, b1, b2, writtenV]
                    exact (HBB.out.setCell (by show w.heap.size ≤ w.heap.size + 1; omega) _).setCell (by show w.heap.size ≤ w.heap.size + 1 + 1; omega) _
                · have hne : ((tn : Int) == 0) = false := by
                    cases hb : ((tn : Int) == 0) with
                    | false => rfl
                    | true => exact absurd (List.length_eq_zero_iff.1 (by rw [HTL.out]; have := eq_of_beq hb; omega)) ht0
                  have HDN := Lib.hid (show R = none by rw [HDN.out, wDone, if_neg (fun h => ht0 h.1)])
                  clear ht0
                  go_wp2_with fail
                  refine (demand_no _).mono ?_; rintro e w1 ⟨rfl, rfl⟩
                  go_wp2_with fail
                  have kk := HK.out
                  have b1 : (wr).cell? ⟨w.heap.size + 1, 0, none⟩ = some (.string { data := #[] }) := (HWB.out.cell (p := ⟨w.heap.size + 1, 0, none⟩) (by show w.heap.size + 1 < _; rw [HSZ.out]; omega)).trans kk.1
                  have b2 : (wr).cell? ⟨w.heap.size + 1 + 1, 0, none⟩ = some (.int .i64 0) := (HWB.out.cell (p := ⟨w.heap.size + 1 + 1, 0, none⟩) (by show w.heap.size + 1 + 1 < _; rw [HSZ.out]; omega)).trans kk.2.1
                  have b3 : (wr).frozen? ⟨w.heap.size + 1, 0, none⟩ = false := (HWB.out.frozen (p := ⟨w.heap.size + 1, 0, none⟩) (by show w.heap.size + 1 < _; rw [HSZ.out]; omega)).trans kk.2.2.1
                  have b4 : (wr).frozen? ⟨w.heap.size + 1 + 1, 0, none⟩ = false := (HWB.out.frozen (p := ⟨w.heap.size + 1 + 1, 0, none⟩) (by show w.heap.size + 1 + 1 < _; rw [HSZ.out]; omega)).trans kk.2.2.2
                  clear kk
                  unfold errV
                  refine leaves_cons (f := 43) (args := #[.pointer (some ⟨w.heap.size + 1, 0, none⟩), .pointer (some ⟨w.heap.size + 1 + 1, 0, none⟩)]) (by simp) (by simp [go_sem]) ?_
                  refine (catch_written (w.heap.size + 1) (w.heap.size + 1 + 1) _ _ _ _ _ _ (by omega) b1 b2 b3 b4).mono ?_
                  rintro e u' w'' ⟨rfl, rfl, rfl⟩
                  have HNO := Lib.hid (show R = none from HDN.out)
                  have HBB := Lib.hid ((HB.out.trans (HWB.out.mono (by rw [HSZ.out]; omega))))
                  rw [HNO.out]
                  simp [Leaves, settle, results, Tryz.results29, go_sem, b1, b2, writtenV]
                  exact (HBB.out.setCell (by show w.heap.size ≤ w.heap.size + 1; omega) _).setCell (by show w.heap.size ≤ w.heap.size + 1 + 1; omega) _
      · have h0b : ((c.toNat : Int) == 0) = false := by
          cases hb : ((c.toNat : Int) == 0) with
          | false => rfl
          | true => exact absurd (UInt8.toNat_inj.mp (Int.ofNat.inj (eq_of_beq hb))) h0
        have HLR := Lib.hid (HR.out.trans (written_some HL.out (by simp [h0])))
        clear h0
        go_wp2_with fail
        refine (demand_ok _).mono ?_; rintro e w1 ⟨rfl, rfl⟩
        go_wp2_with fail
        rw [← HE.out]
        have HR := Lib.hid (show R = (wAll l ⟨T, N, []⟩).bind wDone from HLR.out)
        clear HLR
        go_loopg [48] l.length (fun g i wr => ∃ (j : Nat) (s2 : WS), i = .int .i64 j ∧ j ≤ l.length ∧ g = l.length - j ∧ wAll ((l : Bs).take j) ⟨T, N, []⟩ = some s2 ∧ room s2 ≤ 800000 ∧ IsW W0 wr s2)
        case atStart => exact ⟨0, _, rfl, Nat.zero_le _, rfl, rfl, HRR.out, HNEW.out⟩
        case round =>
          obtain ⟨j, s2, rfl, hj, hg, hall, hr2, hW2⟩ := hrel
          have HALL := Lib.hid hall; have HW2 := Lib.hid hW2; have HG := Lib.hid hg
          clear hall hW2 hg
          by_cases hlt : j < l.length
          · have hlt' : (j : Int) < l.length := by omega
            have hltL : j < (l : Bs).length := hlt
            have HF := field_any W0 wr s2 ((l : Bs)[j]) hr2 HW2.out
            rw [HSZ.out] at HF
            have HF := Lib.hid HF
            go_wp2_with fail
            refine HF.out.mono ?_; rintro e w2 (⟨s3, hs3, rfl, hW3⟩ | ⟨hs3, rfl, hB⟩)
            · have HW3 := Lib.hid hW3
              have HN3 := Lib.hid (wAll_next hltL HALL.out hs3)
              have hr3 : room s3 ≤ 800000 := Nat.le_trans (field_room hs3) hr2
              clear hW3 hs3
              go_wp2_with fail
              go_roundg (l.length - (j + 1))
              case measure => have := HG.out; omega
              case rel => exact ⟨j + 1, s3, by go_num, by omega, rfl, HN3.out, hr3, HW3.out⟩
            · have HN3 := Lib.hid (wAll_fail hltL HALL.out hs3)
              clear hs3
              go_wp2_with fail
              have kk := HK.out
              have b1 : (w2).cell? ⟨w.heap.size + 1, 0, none⟩ = some (.string { data := #[] }) := (hB.cell (p := ⟨w.heap.size + 1, 0, none⟩) (by show w.heap.size + 1 < _; rw [HSZ.out]; omega)).trans kk.1
              have b2 : (w2).cell? ⟨w.heap.size + 1 + 1, 0, none⟩ = some (.int .i64 0) := (hB.cell (p := ⟨w.heap.size + 1 + 1, 0, none⟩) (by show w.heap.size + 1 + 1 < _; rw [HSZ.out]; omega)).trans kk.2.1
              have b3 : (w2).frozen? ⟨w.heap.size + 1, 0, none⟩ = false := (hB.frozen (p := ⟨w.heap.size + 1, 0, none⟩) (by show w.heap.size + 1 < _; rw [HSZ.out]; omega)).trans kk.2.2.1
              have b4 : (w2).frozen? ⟨w.heap.size + 1 + 1, 0, none⟩ = false := (hB.frozen (p := ⟨w.heap.size + 1 + 1, 0, none⟩) (by show w.heap.size + 1 + 1 < _; rw [HSZ.out]; omega)).trans kk.2.2.2
              clear kk
              unfold errV
              refine leaves_cons (f := 43) (args := #[.pointer (some ⟨w.heap.size + 1, 0, none⟩), .pointer (some ⟨w.heap.size + 1 + 1, 0, none⟩)]) (by simp) (by simp [go_sem]) ?_
              refine (catch_written (w.heap.size + 1) (w.heap.size + 1 + 1) _ _ _ _ _ _ (by omega) b1 b2 b3 b4).mono ?_
              rintro e u' w'' ⟨rfl, rfl, rfl⟩
              have HNO := Lib.hid (show R = none from HR.out.trans (by rw [HN3.out]; rfl))
              have HBB := Lib.hid ((HB.out.trans (hB.mono (by rw [HSZ.out]; omega))))
              rw [HNO.out]
              simp [Leaves, settle, results, Tryz.results29, go_sem, b1, b2, writtenV]
              exact (HBB.out.setCell (by show w.heap.size ≤ w.heap.size + 1; omega) _).setCell (by show w.heap.size ≤ w.heap.size + 1 + 1; omega) _
          · obtain rfl : j = l.length := by omega
            have HALL := Lib.hid (show wAll l ⟨T, N, []⟩ = some s2 by have h := HALL.out; rw [show ((l : Bs).take l.length) = l from by first | exact List.take_length | rfl] at h; exact h)
            have HDN := Lib.hid (show R = wDone s2 by rw [HR.out, HALL.out]; rfl)
            obtain ⟨tv2, nv2, bv2, hW⟩ := HW2.out
            obtain ⟨ta, tn, tc, rfl, htl, htn, htc, _⟩ := hW.texts
            obtain ⟨na, nm, nc, rfl, hnl, hnm, hnc, _⟩ := hW.nums
            obtain ⟨ba, bc, rfl⟩ := ownsRow_form hW.body
            have c0 := hW.c0
            have c1 := hW.c1
            have c2 := hW.c2
            rw [HSZ.out] at c0 c1 c2
            have hcv : (convert 65 9 (.slice ba s2.B.length bc)).run Tryz.prog wr = .ok (.string ⟨s2.B.toArray⟩) wr := own_text hW.body rfl
            have HWB := Lib.hid hW.below
            have HTL := Lib.hid htl; have HNL := Lib.hid hnl
            clear hW htl hnl
            by_cases ht0 : s2.T = []
            · obtain rfl : tn = 0 := by rw [← HTL.out, ht0]; rfl
              by_cases hn0 : s2.N = []
              · obtain rfl : nm = 0 := by rw [← HNL.out, hn0]; rfl
                have HDN := Lib.hid (show R = some s2.B by rw [HDN.out, wDone, if_pos ⟨ht0, hn0⟩])
                clear ht0 hn0
                go_wp2_with fail
                refine (demand_ok _).mono ?_; rintro e w1 ⟨rfl, rfl⟩
                have kk := HK.out
                have b1 : (wr).cell? ⟨w.heap.size + 1, 0, none⟩ = some (.string { data := #[] }) := (HWB.out.cell (p := ⟨w.heap.size + 1, 0, none⟩) (by show w.heap.size + 1 < _; rw [HSZ.out]; omega)).trans kk.1
                have b2 : (wr).cell? ⟨w.heap.size + 1 + 1, 0, none⟩ = some (.int .i64 0) := (HWB.out.cell (p := ⟨w.heap.size + 1 + 1, 0, none⟩) (by show w.heap.size + 1 + 1 < _; rw [HSZ.out]; omega)).trans kk.2.1
                have b3 : (wr).frozen? ⟨w.heap.size + 1, 0, none⟩ = false := (HWB.out.frozen (p := ⟨w.heap.size + 1, 0, none⟩) (by show w.heap.size + 1 < _; rw [HSZ.out]; omega)).trans kk.2.2.1
                have b4 : (wr).frozen? ⟨w.heap.size + 1 + 1, 0, none⟩ = false := (HWB.out.frozen (p := ⟨w.heap.size + 1 + 1, 0, none⟩) (by show w.heap.size + 1 + 1 < _; rw [HSZ.out]; omega)).trans kk.2.2.2
                clear kk
                go_wp2_with fail
                refine leaves_cons (f := 43) (args := #[.pointer (some ⟨w.heap.size + 1, 0, none⟩), .pointer (some ⟨w.heap.size + 1 + 1, 0, none⟩)]) (by simp) (by simp [go_sem]) ?_
                refine (catch_idleM _ _ _).mono ?_
                rintro e u' w'' ⟨rfl, rfl, rfl⟩
                have HBB := Lib.hid ((HB.out.trans (HWB.out.mono (by rw [HSZ.out]; omega))))
                rw [HDN.out]
                simp [Leaves, settle, results, Tryz.results29, go_sem, b1, b2, writtenV]
                exact (HBB.out.setCell (by show w.heap.size ≤ w.heap.size + 1; omega) _).setCell (by show w.heap.size ≤ w.heap.size + 1 + 1; omega) _
              · have hne : ((nm : Int) == 0) = false := by
                  cases hb : ((nm : Int) == 0) with
                  | false => rfl
                  | true => exact absurd (List.length_eq_zero_iff.1 (by rw [HNL.out]; have := eq_of_beq hb; omega)) hn0
                have HDN := Lib.hid (show R = none by rw [HDN.out, wDone, if_neg (fun h => hn0 h.2)])
                clear ht0 hn0
                go_wp2_with fail
                refine (demand_no _).mono ?_; rintro e w1 ⟨rfl, rfl⟩
                go_wp2_with fail
                have kk := HK.out
                have b1 : (wr).cell? ⟨w.heap.size + 1, 0, none⟩ = some (.string { data := #[] }) := (HWB.out.cell (p := ⟨w.heap.size + 1, 0, none⟩) (by show w.heap.size + 1 < _; rw [HSZ.out]; omega)).trans kk.1
                have b2 : (wr).cell? ⟨w.heap.size + 1 + 1, 0, none⟩ = some (.int .i64 0) := (HWB.out.cell (p := ⟨w.heap.size + 1 + 1, 0, none⟩) (by show w.heap.size + 1 + 1 < _; rw [HSZ.out]; omega)).trans kk.2.1
                have b3 : (wr).frozen? ⟨w.heap.size + 1, 0, none⟩ = false := (HWB.out.frozen (p := ⟨w.heap.size + 1, 0, none⟩) (by show w.heap.size + 1 < _; rw [HSZ.out]; omega)).trans kk.2.2.1
                have b4 : (wr).frozen? ⟨w.heap.size + 1 + 1, 0, none⟩ = false := (HWB.out.frozen (p := ⟨w.heap.size + 1 + 1, 0, none⟩) (by show w.heap.size + 1 + 1 < _; rw [HSZ.out]; omega)).trans kk.2.2.2
                clear kk
                unfold errV
                refine leaves_cons (f := 43) (args := #[.pointer (some ⟨w.heap.size + 1, 0, none⟩), .pointer (some ⟨w.heap.size + 1 + 1, 0, none⟩)]) (by simp) (by simp [go_sem]) ?_
                refine (catch_written (w.heap.size + 1) (w.heap.size + 1 + 1) _ _ _ _ _ _ (by omega) b1 b2 b3 b4).mono ?_
                rintro e u' w'' ⟨rfl, rfl, rfl⟩
                have HNO := Lib.hid (show R = none from HDN.out)
                have HBB := Lib.hid ((HB.out.trans (HWB.out.mono (by rw [HSZ.out]; omega))))
                rw [HNO.out]
                simp [Leaves, settle, results, Tryz.results29, go_sem, b1, b2, writtenV]
                exact (HBB.out.setCell (by show w.heap.size ≤ w.heap.size + 1; omega) _).setCell (by show w.heap.size ≤ w.heap.size + 1 + 1; omega) _
            · have hne : ((tn : Int) == 0) = false := by
                cases hb : ((tn : Int) == 0) with
                | false => rfl
                | true => exact absurd (List.length_eq_zero_iff.1 (by rw [HTL.out]; have := eq_of_beq hb; omega)) ht0
              have HDN := Lib.hid (show R = none by rw [HDN.out, wDone, if_neg (fun h => ht0 h.1)])
              clear ht0
              go_wp2_with fail
              refine (demand_no _).mono ?_; rintro e w1 ⟨rfl, rfl⟩
              go_wp2_with fail
              have kk := HK.out
              have b1 : (wr).cell? ⟨w.heap.size + 1, 0, none⟩ = some (.string { data := #[] }) := (HWB.out.cell (p := ⟨w.heap.size + 1, 0, none⟩) (by show w.heap.size + 1 < _; rw [HSZ.out]; omega)).trans kk.1
              have b2 : (wr).cell? ⟨w.heap.size + 1 + 1, 0, none⟩ = some (.int .i64 0) := (HWB.out.cell (p := ⟨w.heap.size + 1 + 1, 0, none⟩) (by show w.heap.size + 1 + 1 < _; rw [HSZ.out]; omega)).trans kk.2.1
              have b3 : (wr).frozen? ⟨w.heap.size + 1, 0, none⟩ = false := (HWB.out.frozen (p := ⟨w.heap.size + 1, 0, none⟩) (by show w.heap.size + 1 < _; rw [HSZ.out]; omega)).trans kk.2.2.1
              have b4 : (wr).frozen? ⟨w.heap.size + 1 + 1, 0, none⟩ = false := (HWB.out.frozen (p := ⟨w.heap.size + 1 + 1, 0, none⟩) (by show w.heap.size + 1 + 1 < _; rw [HSZ.out]; omega)).trans kk.2.2.2
              clear kk
              unfold errV
              refine leaves_cons (f := 43) (args := #[.pointer (some ⟨w.heap.size + 1, 0, none⟩), .pointer (some ⟨w.heap.size + 1 + 1, 0, none⟩)]) (by simp) (by simp [go_sem]) ?_
              refine (catch_written (w.heap.size + 1) (w.heap.size + 1 + 1) _ _ _ _ _ _ (by omega) b1 b2 b3 b4).mono ?_
              rintro e u' w'' ⟨rfl, rfl, rfl⟩
              have HNO := Lib.hid (show R = none from HDN.out)
              have HBB := Lib.hid ((HB.out.trans (HWB.out.mono (by rw [HSZ.out]; omega))))
              rw [HNO.out]
              simp [Leaves, settle, results, Tryz.results29, go_sem, b1, b2, writtenV]
              exact (HBB.out.setCell (by show w.heap.size ≤ w.heap.size + 1; omega) _).setCell (by show w.heap.size ≤ w.heap.size + 1 + 1; omega) _
end Go.Proofs.YtmofnkinclckoaaGreatDoor
