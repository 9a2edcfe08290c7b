/- Contracts and mathematics: DReadplain, DReadbare. -/
import Derived.Test.YtmofnkinclckoaaGreatDoorZ16
namespace Go.Proofs.YtmofnkinclckoaaGreatDoor
open Go.RowKit Go.Lib Go.WideShapes

set_option maxRecDepth 100000 in
set_option maxHeartbeats 16000000 in
theorem read_plain (w : World) (c : UInt8) (S : Bs) (hl : S.length ≤ 800000) (l : Bs) (hlay : lay false c = some l) (hc : ¬ c = 0) :
    Calls Tryz.prog 25 #[.bool false, .agg #[.int .u8 (c.toNat : Nat), .string ⟨S.toArray⟩]] w (MsgOut w c 2 (readL false c S)) := by
  have hmf : ∀ (fn : Fn) (first cap : Array Value) (w : World), (Instr.makeFunc fn first cap).run Tryz.prog w = .ok (.func fn first cap) w := fun _ _ _ _ => rfl
  obtain ⟨ci, hci⟩ : ∃ ci : Int, ci = (c.toNat : Nat) := ⟨_, rfl⟩
  obtain ⟨sb, hsb⟩ : ∃ sb : ByteArray, sb = ⟨S.toArray⟩ := ⟨_, rfl⟩
  obtain ⟨R, hR⟩ : ∃ R, R = readL false c S := ⟨_, rfl⟩
  rw [← hR, ← hci, ← hsb]
  have HCI := Lib.hid hci; have HR := Lib.hid hR
  obtain ⟨W0, hW0⟩ : ∃ x, x = ((w.alloc (.cells #[.int .u8 ci, .string sb] 50)).alloc (.cells #[.int .u8 0, .slice none 0 0, .slice none 0 0] 54)).alloc (.cells #[.int .i64 0] 40) := ⟨_, rfl⟩
  have hsz : W0.heap.size = w.heap.size + 1 + 1 + 1 := by rw [hW0]; simp
  have HB := Lib.hid (show Below w.heap.size w W0 by rw [hW0]; exact (((Below.refl _ _).alloc (Nat.le_refl _) _).alloc (by simp) _).alloc (by simp; omega) _)
  have HK := Lib.hid (show W0.cell? ⟨w.heap.size + 1, 0, none⟩ = some (.int .u8 0) ∧ W0.cell? ⟨w.heap.size + 1, 1, none⟩ = some (.slice none 0 0) ∧ W0.cell? ⟨w.heap.size + 1, 2, none⟩ = some (.slice none 0 0) ∧ W0.cell? ⟨w.heap.size + 1 + 1, 0, none⟩ = some (.int .i64 0) ∧ W0.frozen? ⟨w.heap.size + 1, 0, none⟩ = false ∧ W0.frozen? ⟨w.heap.size + 1, 1, none⟩ = false ∧ W0.frozen? ⟨w.heap.size + 1, 2, none⟩ = false ∧ W0.frozen? ⟨w.heap.size + 1 + 1, 0, none⟩ = false by rw [hW0]; simp [go_sem])
  have F0 := Lib.hid (show ∀ W, Below W0.heap.size W0 W → W.cell? ⟨w.heap.size, 0, none⟩ = some (.int .u8 ci) ∧ W.cell? ⟨w.heap.size, 1, none⟩ = some (.string sb) from by
    intro W hW
    have k : ∀ i, W.cell? ⟨w.heap.size, i, none⟩ = W0.cell? ⟨w.heap.size, i, none⟩ := fun i => hW.cell (p := ⟨w.heap.size, i, none⟩) (by show w.heap.size < _; omega)
    exact ⟨(k 0).trans (by rw [hW0]; simp [go_sem]), (k 1).trans (by rw [hW0]; simp [go_sem])⟩)
  have HNEW := Lib.hid (isd_new W0 S)
  have HRR := Lib.hid (show droom ⟨S, [], []⟩ ≤ 850000 by show S.length + 0 ≤ _; omega)
  have HE := Lib.hid hW0
  have HSZ := Lib.hid hsz
  have HIC := Lib.hid (fun W => iscancel_any W S hl)
  rw [← hsb] at HNEW HIC
  have HLY := Lib.hid (fun W => lay_any W false c)
  rw [← hci] at HLY
  clear hW0 hsz hR hsb hl
  rw [hlay] at HLY
  have HLL0 := Lib.hid (lay_letters hlay)
  have HLET := Lib.hid HLL0.out.1
  have HL5 := Lib.hid HLL0.out.2
  have hcb : (ci == 0) = false := by
    rw [hci, beq_eq_false_iff_ne]; intro e
    exact hc (UInt8.toNat_inj.mp (by have : c.toNat = 0 := by omega
                                     exact this))
  have HR := Lib.hid (HR.out.trans (readL_some hlay (by intro h; exact hc h.2.1)))
  clear hlay HLL0 hci hc
  go_enter_defers Tryz.func25, Tryz.ntmps25
  go_wp2_with fail
  refine (HLY.out _).mono ?_; rintro e w1 ⟨rfl, rfl⟩
  unfold layV
  go_wp2_with fail
  refine (demand_ok _).mono ?_; rintro e w2 ⟨rfl, rfl⟩
  go_wp2_with fail
  rw [← HE.out]
  have HIQ := HNEW
  obtain ⟨L, hL⟩ : ∃ L : ByteArray, L = ⟨l.toArray⟩ := ⟨_, rfl⟩
  have HLL := Lib.hid (show bytes L = l by rw [hL])
  have hl5 : L.size ≤ 5 := by rw [← blen, HLL.out]; exact HL5.out
  have HLS := Lib.hid (show L.size = l.length by rw [← blen, HLL.out])
  rw [← hL]
  clear hL
  go_loopg [38] l.length (fun g i wr => ∃ (j : Nat) (x : RS), i = .int .i64 j ∧ j ≤ l.length ∧ g = l.length - j ∧ (rAll (l.take j) ⟨S, [], []⟩ = some x) ∧ droom x ≤ 850000 ∧ IsD W0 wr x)
  case atStart => exact ⟨0, _, rfl, Nat.zero_le _, rfl, rfl, HRR.out, HIQ.out⟩
  case round =>
    obtain ⟨j, x, rfl, hj, hg, hall, hr2, hI⟩ := hrel
    have HALL := Lib.hid hall; have HG := Lib.hid hg; have HI := Lib.hid hI
    clear hall hg hI
    by_cases hlt0 : j < l.length
    · have hltn : (j : Int) < l.length := by omega
      have hlt : j < L.size := by rw [HLS.out]; exact hlt0
      have hlt' : (j : Int) < L.size := by omega
      have hlj : l[j]? = some L[j] := by rw [← HLL.out]; exact List.getElem?_eq_getElem (by rw [blen]; exact hlt)
      have HLJ := Lib.hid (HLET.out L[j] (List.mem_of_getElem? hlj))
      have HAN := Lib.hid (fun x' => rAll_next (x' := x') HALL.out hlj)
      have HAF := Lib.hid (rAll_fail HALL.out hlj)
      clear hlj
      have HF := dfield_any W0 wr x L[j] HLJ.out hr2 HI.out
      rw [HSZ.out] at HF
      have HF := Lib.hid HF
      go_wp2_with fail
      refine HF.out.mono ?_; rintro e w6 (⟨x', hx, rfl, hI⟩ | ⟨hx, rfl, hB⟩)
      · have HI6 := Lib.hid hI
        have HN6 := Lib.hid (HAN.out x' hx)
        have hr6 : droom x' ≤ 850000 := Nat.le_trans (nar_field _ _ _ hx) hr2
        clear hx hI
        go_wp2_with fail
        go_roundg (l.length - (j + 1))
        case measure => have := HG.out; omega
        case rel => exact ⟨j + 1, x', by go_num, by omega, rfl, HN6.out, hr6, HI6.out⟩
      · have HN6 := Lib.hid (HAF.out hx)
        clear hx
        go_wp2_with fail
        have kk := HK.out
        have b0 : w6.cell? ⟨w.heap.size + 1, 0, none⟩ = some (.int .u8 0) := (hB.cell (p := ⟨w.heap.size + 1, 0, none⟩) (by show w.heap.size + 1 < _; rw [HSZ.out]; omega)).trans kk.1
        have b1 : w6.cell? ⟨w.heap.size + 1, 1, none⟩ = some (.slice none 0 0) := (hB.cell (p := ⟨w.heap.size + 1, 1, none⟩) (by show w.heap.size + 1 < _; rw [HSZ.out]; omega)).trans kk.2.1
        have b2 : w6.cell? ⟨w.heap.size + 1, 2, none⟩ = some (.slice none 0 0) := (hB.cell (p := ⟨w.heap.size + 1, 2, none⟩) (by show w.heap.size + 1 < _; rw [HSZ.out]; omega)).trans kk.2.2.1
        have b3 : w6.cell? ⟨w.heap.size + 1 + 1, 0, none⟩ = some (.int .i64 0) := (hB.cell (p := ⟨w.heap.size + 1 + 1, 0, none⟩) (by show w.heap.size + 1 + 1 < _; rw [HSZ.out]; omega)).trans kk.2.2.2.1
        have g0 : w6.frozen? ⟨w.heap.size + 1, 0, none⟩ = false := (hB.frozen (p := ⟨w.heap.size + 1, 0, none⟩) (by show w.heap.size + 1 < _; rw [HSZ.out]; omega)).trans kk.2.2.2.2.1
        have g1 : w6.frozen? ⟨w.heap.size + 1, 1, none⟩ = false := (hB.frozen (p := ⟨w.heap.size + 1, 1, none⟩) (by show w.heap.size + 1 < _; rw [HSZ.out]; omega)).trans kk.2.2.2.2.2.1
        have g2 : w6.frozen? ⟨w.heap.size + 1, 2, none⟩ = false := (hB.frozen (p := ⟨w.heap.size + 1, 2, none⟩) (by show w.heap.size + 1 < _; rw [HSZ.out]; omega)).trans kk.2.2.2.2.2.2.1
        have g3 : w6.frozen? ⟨w.heap.size + 1 + 1, 0, none⟩ = false := (hB.frozen (p := ⟨w.heap.size + 1 + 1, 0, none⟩) (by show w.heap.size + 1 + 1 < _; rw [HSZ.out]; omega)).trans kk.2.2.2.2.2.2.2
        clear kk
        unfold errV
        refine leaves_cons (f := 33) (args := #[.pointer (some ⟨w.heap.size + 1, 0, none⟩), .pointer (some ⟨w.heap.size + 1 + 1, 0, none⟩)]) (by simp) (by simp [go_sem]) ?_
        refine (catch_read (w.heap.size + 1) (w.heap.size + 1 + 1) _ _ _ _ _ _ _ _ (by omega) b0 b1 b2 b3 g0 g1 g2 g3).mono ?_
        rintro e u' w'' ⟨rfl, rfl, rfl⟩
        have HNO := Lib.hid (show R = none from HR.out.trans (by rw [HN6.out]; rfl))
        have HBB := Lib.hid (HB.out.trans (hB.mono (by rw [HSZ.out]; omega)))
        rw [HNO.out]
        simp [Leaves, settle, results, Tryz.results25, go_sem, b0, b1, b2, b3]
        exact ⟨rfl, (((HBB.out.setCell (by show w.heap.size ≤ w.heap.size + 1; omega) _).setCell (by show w.heap.size ≤ w.heap.size + 1; omega) _).setCell (by show w.heap.size ≤ w.heap.size + 1; omega) _).setCell (by show w.heap.size ≤ w.heap.size + 1 + 1; omega) _⟩
    · have hjz : j = L.size := by rw [HLS.out]; omega
      have HALL := Lib.hid (show rAll l ⟨S, [], []⟩ = some x by have h := HALL.out; rw [hjz, ← blen, HLL.out, List.take_length] at h; exact h)
      have hge : ¬ (j : Int) < l.length := by omega
      have HDN := Lib.hid (show R = rDone x by rw [HR.out, HALL.out]; rfl)
      obtain ⟨tv, nv, hD⟩ := HI.out
      have c0 := hD.c0
      have c1 := hD.c1
      have c2 := hD.c2
      rw [HSZ.out] at c0 c1 c2
      have HD := Lib.hid hD
      have HWB := Lib.hid hD.below
      clear hjz hD
      by_cases hS : x.S = []
      · have hse : ((⟨x.S.toArray⟩ : ByteArray).toList == ([] : List UInt8)) = true := by rw [hS, toList_eq]; rfl
        have HDN := Lib.hid (show R = some (x.T, x.N) by rw [HDN.out]; exact if_pos hS)
        generalize (⟨x.S.toArray⟩ : ByteArray) = xs at c0 hse
        clear hS
        go_wp2_with fail
        refine (demand_ok _).mono ?_; rintro e w7 ⟨rfl, rfl⟩
        have kk := HK.out
        have b0 : wr.cell? ⟨w.heap.size + 1, 0, none⟩ = some (.int .u8 0) := (HWB.out.cell (p := ⟨w.heap.size + 1, 0, none⟩) (by show w.heap.size + 1 < _; rw [HSZ.out]; omega)).trans kk.1
        have b1 : wr.cell? ⟨w.heap.size + 1, 1, none⟩ = some (.slice none 0 0) := (HWB.out.cell (p := ⟨w.heap.size + 1, 1, none⟩) (by show w.heap.size + 1 < _; rw [HSZ.out]; omega)).trans kk.2.1
        have b2 : wr.cell? ⟨w.heap.size + 1, 2, none⟩ = some (.slice none 0 0) := (HWB.out.cell (p := ⟨w.heap.size + 1, 2, none⟩) (by show w.heap.size + 1 < _; rw [HSZ.out]; omega)).trans kk.2.2.1
        have b3 : wr.cell? ⟨w.heap.size + 1 + 1, 0, none⟩ = some (.int .i64 0) := (HWB.out.cell (p := ⟨w.heap.size + 1 + 1, 0, none⟩) (by show w.heap.size + 1 + 1 < _; rw [HSZ.out]; omega)).trans kk.2.2.2.1
        have g0 : wr.frozen? ⟨w.heap.size + 1, 0, none⟩ = false := (HWB.out.frozen (p := ⟨w.heap.size + 1, 0, none⟩) (by show w.heap.size + 1 < _; rw [HSZ.out]; omega)).trans kk.2.2.2.2.1
        have g1 : wr.frozen? ⟨w.heap.size + 1, 1, none⟩ = false := (HWB.out.frozen (p := ⟨w.heap.size + 1, 1, none⟩) (by show w.heap.size + 1 < _; rw [HSZ.out]; omega)).trans kk.2.2.2.2.2.1
        have g2 : wr.frozen? ⟨w.heap.size + 1, 2, none⟩ = false := (HWB.out.frozen (p := ⟨w.heap.size + 1, 2, none⟩) (by show w.heap.size + 1 < _; rw [HSZ.out]; omega)).trans kk.2.2.2.2.2.2.1
        have g3 : wr.frozen? ⟨w.heap.size + 1 + 1, 0, none⟩ = false := (HWB.out.frozen (p := ⟨w.heap.size + 1 + 1, 0, none⟩) (by show w.heap.size + 1 + 1 < _; rw [HSZ.out]; omega)).trans kk.2.2.2.2.2.2.2
        clear kk
        have kf := F0.out wr HWB.out
        obtain ⟨ta, tc, rfl⟩ := ownsRow_form HD.out.texts
        obtain ⟨na, nc, rfl⟩ := ownsRow_form HD.out.nums
        have k0 := kf.1
        have HTX := Lib.hid HD.out.texts
        have HNM := Lib.hid HD.out.nums
        have HBB := Lib.hid (HB.out.trans (HWB.out.mono (by rw [HSZ.out]; omega)))
        rw [HSZ.out] at HTX HNM
        clear kf
        go_upto_region 13 with (fail)
        go_region
        all_goals
          go_wp2_with fail
          refine leaves_cons (f := 33) (args := #[.pointer (some ⟨w.heap.size + 1, 0, none⟩), .pointer (some ⟨w.heap.size + 1 + 1, 0, none⟩)]) (by simp) (by simp [go_sem]) ?_
          refine (catch_idle_read _ _ _).mono ?_
          rintro e u' w'' ⟨rfl, rfl, rfl⟩
          rw [HDN.out]
          simp [Leaves, settle, results, Tryz.results25, go_sem, b0, b1, b2, b3]
          refine ⟨_, _, by rw [HCI.out], own_base (own_four HTX.out _ _ (by omega) (by omega) _ _ _ _) (by omega), own_base (own_four HNM.out _ _ (by omega) (by omega) _ _ _ _) (by omega), ((((HBB.out.setCell (by show w.heap.size ≤ w.heap.size + 1; omega) _).setCell (by show w.heap.size ≤ w.heap.size + 1; omega) _).setCell (by show w.heap.size ≤ w.heap.size + 1; omega) _).setCell (by show w.heap.size ≤ w.heap.size + 1 + 1; omega) _).drew⟩
      · have hse : ((⟨x.S.toArray⟩ : ByteArray).toList == ([] : List UInt8)) = false := by
          rw [toList_eq, beq_eq_false_iff_ne]; intro e
          exact hS e
        have HDN := Lib.hid (show R = none by rw [HDN.out]; exact if_neg hS)
        generalize (⟨x.S.toArray⟩ : ByteArray) = xs at c0 hse
        clear hS
        go_wp2_with fail
        refine (demand_no _).mono ?_; rintro e w7 ⟨rfl, rfl⟩
        go_wp2_with fail
        have kk := HK.out
        have b0 : wr.cell? ⟨w.heap.size + 1, 0, none⟩ = some (.int .u8 0) := (HWB.out.cell (p := ⟨w.heap.size + 1, 0, none⟩) (by show w.heap.size + 1 < _; rw [HSZ.out]; omega)).trans kk.1
        have b1 : wr.cell? ⟨w.heap.size + 1, 1, none⟩ = some (.slice none 0 0) := (HWB.out.cell (p := ⟨w.heap.size + 1, 1, none⟩) (by show w.heap.size + 1 < _; rw [HSZ.out]; omega)).trans kk.2.1
        have b2 : wr.cell? ⟨w.heap.size + 1, 2, none⟩ = some (.slice none 0 0) := (HWB.out.cell (p := ⟨w.heap.size + 1, 2, none⟩) (by show w.heap.size + 1 < _; rw [HSZ.out]; omega)).trans kk.2.2.1
        have b3 : wr.cell? ⟨w.heap.size + 1 + 1, 0, none⟩ = some (.int .i64 0) := (HWB.out.cell (p := ⟨w.heap.size + 1 + 1, 0, none⟩) (by show w.heap.size + 1 + 1 < _; rw [HSZ.out]; omega)).trans kk.2.2.2.1
        have g0 : wr.frozen? ⟨w.heap.size + 1, 0, none⟩ = false := (HWB.out.frozen (p := ⟨w.heap.size + 1, 0, none⟩) (by show w.heap.size + 1 < _; rw [HSZ.out]; omega)).trans kk.2.2.2.2.1
        have g1 : wr.frozen? ⟨w.heap.size + 1, 1, none⟩ = false := (HWB.out.frozen (p := ⟨w.heap.size + 1, 1, none⟩) (by show w.heap.size + 1 < _; rw [HSZ.out]; omega)).trans kk.2.2.2.2.2.1
        have g2 : wr.frozen? ⟨w.heap.size + 1, 2, none⟩ = false := (HWB.out.frozen (p := ⟨w.heap.size + 1, 2, none⟩) (by show w.heap.size + 1 < _; rw [HSZ.out]; omega)).trans kk.2.2.2.2.2.2.1
        have g3 : wr.frozen? ⟨w.heap.size + 1 + 1, 0, none⟩ = false := (HWB.out.frozen (p := ⟨w.heap.size + 1 + 1, 0, none⟩) (by show w.heap.size + 1 + 1 < _; rw [HSZ.out]; omega)).trans kk.2.2.2.2.2.2.2
        clear kk
        unfold errV
        refine leaves_cons (f := 33) (args := #[.pointer (some ⟨w.heap.size + 1, 0, none⟩), .pointer (some ⟨w.heap.size + 1 + 1, 0, none⟩)]) (by simp) (by simp [go_sem]) ?_
        refine (catch_read (w.heap.size + 1) (w.heap.size + 1 + 1) _ _ _ _ _ _ _ _ (by omega) b0 b1 b2 b3 g0 g1 g2 g3).mono ?_
        rintro e u' w'' ⟨rfl, rfl, rfl⟩
        have HNO := Lib.hid (show R = none from HDN.out)
        have HBB := Lib.hid (HB.out.trans (HWB.out.mono (by rw [HSZ.out]; omega)))
        rw [HNO.out]
        simp [Leaves, settle, results, Tryz.results25, go_sem, b0, b1, b2, b3]
        exact ⟨rfl, (((HBB.out.setCell (by show w.heap.size ≤ w.heap.size + 1; omega) _).setCell (by show w.heap.size ≤ w.heap.size + 1; omega) _).setCell (by show w.heap.size ≤ w.heap.size + 1; omega) _).setCell (by show w.heap.size ≤ w.heap.size + 1 + 1; omega) _⟩
end Go.Proofs.YtmofnkinclckoaaGreatDoor

namespace Go.Proofs.YtmofnkinclckoaaGreatDoor
open Go.RowKit Go.Lib Go.WideShapes

set_option maxRecDepth 100000 in
set_option maxHeartbeats 16000000 in
theorem read_bare (w : World) (c : UInt8) (S : Bs) (hl : S.length ≤ 800000) (l : Bs) (hlay : lay false c = some l) (hc : c = 0) (hcan : isCancel S = false) :
    Calls Tryz.prog 25 #[.bool false, .agg #[.int .u8 (c.toNat : Nat), .string ⟨S.toArray⟩]] w (MsgOut w c 2 (readL false c S)) := by
  have hmf : ∀ (fn : Fn) (first cap : Array Value) (w : World), (Instr.makeFunc fn first cap).run Tryz.prog w = .ok (.func fn first cap) w := fun _ _ _ _ => rfl
  obtain ⟨ci, hci⟩ : ∃ ci : Int, ci = (c.toNat : Nat) := ⟨_, rfl⟩
  obtain ⟨sb, hsb⟩ : ∃ sb : ByteArray, sb = ⟨S.toArray⟩ := ⟨_, rfl⟩
  obtain ⟨R, hR⟩ : ∃ R, R = readL false c S := ⟨_, rfl⟩
  rw [← hR, ← hci, ← hsb]
  have HCI := Lib.hid hci; have HR := Lib.hid hR
  obtain ⟨W0, hW0⟩ : ∃ x, x = ((w.alloc (.cells #[.int .u8 ci, .string sb] 50)).alloc (.cells #[.int .u8 0, .slice none 0 0, .slice none 0 0] 54)).alloc (.cells #[.int .i64 0] 40) := ⟨_, rfl⟩
  have hsz : W0.heap.size = w.heap.size + 1 + 1 + 1 := by rw [hW0]; simp
  have HB := Lib.hid (show Below w.heap.size w W0 by rw [hW0]; exact (((Below.refl _ _).alloc (Nat.le_refl _) _).alloc (by simp) _).alloc (by simp; omega) _)
  have HK := Lib.hid (show W0.cell? ⟨w.heap.size + 1, 0, none⟩ = some (.int .u8 0) ∧ W0.cell? ⟨w.heap.size + 1, 1, none⟩ = some (.slice none 0 0) ∧ W0.cell? ⟨w.heap.size + 1, 2, none⟩ = some (.slice none 0 0) ∧ W0.cell? ⟨w.heap.size + 1 + 1, 0, none⟩ = some (.int .i64 0) ∧ W0.frozen? ⟨w.heap.size + 1, 0, none⟩ = false ∧ W0.frozen? ⟨w.heap.size + 1, 1, none⟩ = false ∧ W0.frozen? ⟨w.heap.size + 1, 2, none⟩ = false ∧ W0.frozen? ⟨w.heap.size + 1 + 1, 0, none⟩ = false by rw [hW0]; simp [go_sem])
  have F0 := Lib.hid (show ∀ W, Below W0.heap.size W0 W → W.cell? ⟨w.heap.size, 0, none⟩ = some (.int .u8 ci) ∧ W.cell? ⟨w.heap.size, 1, none⟩ = some (.string sb) from by
    intro W hW
    have k : ∀ i, W.cell? ⟨w.heap.size, i, none⟩ = W0.cell? ⟨w.heap.size, i, none⟩ := fun i => hW.cell (p := ⟨w.heap.size, i, none⟩) (by show w.heap.size < _; omega)
    exact ⟨(k 0).trans (by rw [hW0]; simp [go_sem]), (k 1).trans (by rw [hW0]; simp [go_sem])⟩)
  have HNEW := Lib.hid (isd_new W0 S)
  have HRR := Lib.hid (show droom ⟨S, [], []⟩ ≤ 850000 by show S.length + 0 ≤ _; omega)
  have HE := Lib.hid hW0
  have HSZ := Lib.hid hsz
  have HIC := Lib.hid (fun W => iscancel_any W S hl)
  rw [← hsb] at HNEW HIC
  have HLY := Lib.hid (fun W => lay_any W false c)
  rw [← hci] at HLY
  clear hW0 hsz hR hsb hl
  rw [hlay] at HLY
  have HLL0 := Lib.hid (lay_letters hlay)
  have HLET := Lib.hid HLL0.out.1
  have HL5 := Lib.hid HLL0.out.2
  have hcb : (ci == 0) = true := by rw [hci, hc]; rfl
  have HR := Lib.hid (HR.out.trans (readL_some hlay (by intro h; rw [hcan] at h; cases h.2.2)))
  rw [hcan] at HIC
  clear hlay HLL0 hci hcan hc
  go_enter_defers Tryz.func25, Tryz.ntmps25
  go_wp2_with fail
  refine (HLY.out _).mono ?_; rintro e w1 ⟨rfl, rfl⟩
  unfold layV
  go_wp2_with fail
  refine (demand_ok _).mono ?_; rintro e w2 ⟨rfl, rfl⟩
  go_wp2_with fail
  refine (HIC.out _).mono ?_; rintro e w3 ⟨rfl, hb⟩
  rw [← HE.out] at hb
  have HIQ := Lib.hid (show IsD W0 w3 ⟨S, [], []⟩ from by obtain ⟨tv, nv, hD⟩ := HNEW.out; exact ⟨tv, nv, hD.grow hb⟩)
  clear hb hcb
  go_wp2_with fail
  obtain ⟨L, hL⟩ : ∃ L : ByteArray, L = ⟨l.toArray⟩ := ⟨_, rfl⟩
  have HLL := Lib.hid (show bytes L = l by rw [hL])
  have hl5 : L.size ≤ 5 := by rw [← blen, HLL.out]; exact HL5.out
  have HLS := Lib.hid (show L.size = l.length by rw [← blen, HLL.out])
  rw [← hL]
  clear hL
  go_loopg [38] l.length (fun g i wr => ∃ (j : Nat) (x : RS), i = .int .i64 j ∧ j ≤ l.length ∧ g = l.length - j ∧ (rAll (l.take j) ⟨S, [], []⟩ = some x) ∧ droom x ≤ 850000 ∧ IsD W0 wr x)
  case atStart => exact ⟨0, _, rfl, Nat.zero_le _, rfl, rfl, HRR.out, HIQ.out⟩
  case round =>
    obtain ⟨j, x, rfl, hj, hg, hall, hr2, hI⟩ := hrel
    have HALL := Lib.hid hall; have HG := Lib.hid hg; have HI := Lib.hid hI
    clear hall hg hI
    by_cases hlt0 : j < l.length
    · have hltn : (j : Int) < l.length := by omega
      have hlt : j < L.size := by rw [HLS.out]; exact hlt0
      have hlt' : (j : Int) < L.size := by omega
      have hlj : l[j]? = some L[j] := by rw [← HLL.out]; exact List.getElem?_eq_getElem (by rw [blen]; exact hlt)
      have HLJ := Lib.hid (HLET.out L[j] (List.mem_of_getElem? hlj))
      have HAN := Lib.hid (fun x' => rAll_next (x' := x') HALL.out hlj)
      have HAF := Lib.hid (rAll_fail HALL.out hlj)
      clear hlj
      have HF := dfield_any W0 wr x L[j] HLJ.out hr2 HI.out
      rw [HSZ.out] at HF
      have HF := Lib.hid HF
      go_wp2_with fail
      refine HF.out.mono ?_; rintro e w6 (⟨x', hx, rfl, hI⟩ | ⟨hx, rfl, hB⟩)
      · have HI6 := Lib.hid hI
        have HN6 := Lib.hid (HAN.out x' hx)
        have hr6 : droom x' ≤ 850000 := Nat.le_trans (nar_field _ _ _ hx) hr2
        clear hx hI
        go_wp2_with fail
        go_roundg (l.length - (j + 1))
        case measure => have := HG.out; omega
        case rel => exact ⟨j + 1, x', by go_num, by omega, rfl, HN6.out, hr6, HI6.out⟩
      · have HN6 := Lib.hid (HAF.out hx)
        clear hx
        go_wp2_with fail
        have kk := HK.out
        have b0 : w6.cell? ⟨w.heap.size + 1, 0, none⟩ = some (.int .u8 0) := (hB.cell (p := ⟨w.heap.size + 1, 0, none⟩) (by show w.heap.size + 1 < _; rw [HSZ.out]; omega)).trans kk.1
        have b1 : w6.cell? ⟨w.heap.size + 1, 1, none⟩ = some (.slice none 0 0) := (hB.cell (p := ⟨w.heap.size + 1, 1, none⟩) (by show w.heap.size + 1 < _; rw [HSZ.out]; omega)).trans kk.2.1
        have b2 : w6.cell? ⟨w.heap.size + 1, 2, none⟩ = some (.slice none 0 0) := (hB.cell (p := ⟨w.heap.size + 1, 2, none⟩) (by show w.heap.size + 1 < _; rw [HSZ.out]; omega)).trans kk.2.2.1
        have b3 : w6.cell? ⟨w.heap.size + 1 + 1, 0, none⟩ = some (.int .i64 0) := (hB.cell (p := ⟨w.heap.size + 1 + 1, 0, none⟩) (by show w.heap.size + 1 + 1 < _; rw [HSZ.out]; omega)).trans kk.2.2.2.1
        have g0 : w6.frozen? ⟨w.heap.size + 1, 0, none⟩ = false := (hB.frozen (p := ⟨w.heap.size + 1, 0, none⟩) (by show w.heap.size + 1 < _; rw [HSZ.out]; omega)).trans kk.2.2.2.2.1
        have g1 : w6.frozen? ⟨w.heap.size + 1, 1, none⟩ = false := (hB.frozen (p := ⟨w.heap.size + 1, 1, none⟩) (by show w.heap.size + 1 < _; rw [HSZ.out]; omega)).trans kk.2.2.2.2.2.1
        have g2 : w6.frozen? ⟨w.heap.size + 1, 2, none⟩ = false := (hB.frozen (p := ⟨w.heap.size + 1, 2, none⟩) (by show w.heap.size + 1 < _; rw [HSZ.out]; omega)).trans kk.2.2.2.2.2.2.1
        have g3 : w6.frozen? ⟨w.heap.size + 1 + 1, 0, none⟩ = false := (hB.frozen (p := ⟨w.heap.size + 1 + 1, 0, none⟩) (by show w.heap.size + 1 + 1 < _; rw [HSZ.out]; omega)).trans kk.2.2.2.2.2.2.2
        clear kk
        unfold errV
        refine leaves_cons (f := 33) (args := #[.pointer (some ⟨w.heap.size + 1, 0, none⟩), .pointer (some ⟨w.heap.size + 1 + 1, 0, none⟩)]) (by simp) (by simp [go_sem]) ?_
        refine (catch_read (w.heap.size + 1) (w.heap.size + 1 + 1) _ _ _ _ _ _ _ _ (by omega) b0 b1 b2 b3 g0 g1 g2 g3).mono ?_
        rintro e u' w'' ⟨rfl, rfl, rfl⟩
        have HNO := Lib.hid (show R = none from HR.out.trans (by rw [HN6.out]; rfl))
        have HBB := Lib.hid (HB.out.trans (hB.mono (by rw [HSZ.out]; omega)))
        rw [HNO.out]
        simp [Leaves, settle, results, Tryz.results25, go_sem, b0, b1, b2, b3]
        exact ⟨rfl, (((HBB.out.setCell (by show w.heap.size ≤ w.heap.size + 1; omega) _).setCell (by show w.heap.size ≤ w.heap.size + 1; omega) _).setCell (by show w.heap.size ≤ w.heap.size + 1; omega) _).setCell (by show w.heap.size ≤ w.heap.size + 1 + 1; omega) _⟩
    · have hjz : j = L.size := by rw [HLS.out]; omega
      have HALL := Lib.hid (show rAll l ⟨S, [], []⟩ = some x by have h := HALL.out; rw [hjz, ← blen, HLL.out, List.take_length] at h; exact h)
      have hge : ¬ (j : Int) < l.length := by omega
      have HDN := Lib.hid (show R = rDone x by rw [HR.out, HALL.out]; rfl)
      obtain ⟨tv, nv, hD⟩ := HI.out
      have c0 := hD.c0
      have c1 := hD.c1
      have c2 := hD.c2
      rw [HSZ.out] at c0 c1 c2
      have HD := Lib.hid hD
      have HWB := Lib.hid hD.below
      clear hjz hD
      by_cases hS : x.S = []
      · have hse : ((⟨x.S.toArray⟩ : ByteArray).toList == ([] : List UInt8)) = true := by rw [hS, toList_eq]; rfl
        have HDN := Lib.hid (show R = some (x.T, x.N) by rw [HDN.out]; exact if_pos hS)
        generalize (⟨x.S.toArray⟩ : ByteArray) = xs at c0 hse
        clear hS
        go_wp2_with fail
        refine (demand_ok _).mono ?_; rintro e w7 ⟨rfl, rfl⟩
        have kk := HK.out
        have b0 : wr.cell? ⟨w.heap.size + 1, 0, none⟩ = some (.int .u8 0) := (HWB.out.cell (p := ⟨w.heap.size + 1, 0, none⟩) (by show w.heap.size + 1 < _; rw [HSZ.out]; omega)).trans kk.1
        have b1 : wr.cell? ⟨w.heap.size + 1, 1, none⟩ = some (.slice none 0 0) := (HWB.out.cell (p := ⟨w.heap.size + 1, 1, none⟩) (by show w.heap.size + 1 < _; rw [HSZ.out]; omega)).trans kk.2.1
        have b2 : wr.cell? ⟨w.heap.size + 1, 2, none⟩ = some (.slice none 0 0) := (HWB.out.cell (p := ⟨w.heap.size + 1, 2, none⟩) (by show w.heap.size + 1 < _; rw [HSZ.out]; omega)).trans kk.2.2.1
        have b3 : wr.cell? ⟨w.heap.size + 1 + 1, 0, none⟩ = some (.int .i64 0) := (HWB.out.cell (p := ⟨w.heap.size + 1 + 1, 0, none⟩) (by show w.heap.size + 1 + 1 < _; rw [HSZ.out]; omega)).trans kk.2.2.2.1
        have g0 : wr.frozen? ⟨w.heap.size + 1, 0, none⟩ = false := (HWB.out.frozen (p := ⟨w.heap.size + 1, 0, none⟩) (by show w.heap.size + 1 < _; rw [HSZ.out]; omega)).trans kk.2.2.2.2.1
        have g1 : wr.frozen? ⟨w.heap.size + 1, 1, none⟩ = false := (HWB.out.frozen (p := ⟨w.heap.size + 1, 1, none⟩) (by show w.heap.size + 1 < _; rw [HSZ.out]; omega)).trans kk.2.2.2.2.2.1
        have g2 : wr.frozen? ⟨w.heap.size + 1, 2, none⟩ = false := (HWB.out.frozen (p := ⟨w.heap.size + 1, 2, none⟩) (by show w.heap.size + 1 < _; rw [HSZ.out]; omega)).trans kk.2.2.2.2.2.2.1
        have g3 : wr.frozen? ⟨w.heap.size + 1 + 1, 0, none⟩ = false := (HWB.out.frozen (p := ⟨w.heap.size + 1 + 1, 0, none⟩) (by show w.heap.size + 1 + 1 < _; rw [HSZ.out]; omega)).trans kk.2.2.2.2.2.2.2
        clear kk
        have kf := F0.out wr HWB.out
        obtain ⟨ta, tc, rfl⟩ := ownsRow_form HD.out.texts
        obtain ⟨na, nc, rfl⟩ := ownsRow_form HD.out.nums
        have k0 := kf.1
        have HTX := Lib.hid HD.out.texts
        have HNM := Lib.hid HD.out.nums
        have HBB := Lib.hid (HB.out.trans (HWB.out.mono (by rw [HSZ.out]; omega)))
        rw [HSZ.out] at HTX HNM
        clear kf
        go_upto_region 13 with (fail)
        go_region
        all_goals
          go_wp2_with fail
          refine leaves_cons (f := 33) (args := #[.pointer (some ⟨w.heap.size + 1, 0, none⟩), .pointer (some ⟨w.heap.size + 1 + 1, 0, none⟩)]) (by simp) (by simp [go_sem]) ?_
          refine (catch_idle_read _ _ _).mono ?_
          rintro e u' w'' ⟨rfl, rfl, rfl⟩
          rw [HDN.out]
          simp [Leaves, settle, results, Tryz.results25, go_sem, b0, b1, b2, b3]
          refine ⟨_, _, by rw [HCI.out], own_base (own_four HTX.out _ _ (by omega) (by omega) _ _ _ _) (by omega), own_base (own_four HNM.out _ _ (by omega) (by omega) _ _ _ _) (by omega), ((((HBB.out.setCell (by show w.heap.size ≤ w.heap.size + 1; omega) _).setCell (by show w.heap.size ≤ w.heap.size + 1; omega) _).setCell (by show w.heap.size ≤ w.heap.size + 1; omega) _).setCell (by show w.heap.size ≤ w.heap.size + 1 + 1; omega) _).drew⟩
      · have hse : ((⟨x.S.toArray⟩ : ByteArray).toList == ([] : List UInt8)) = false := by
          rw [toList_eq, beq_eq_false_iff_ne]; intro e
          exact hS e
        have HDN := Lib.hid (show R = none by rw [HDN.out]; exact if_neg hS)
        generalize (⟨x.S.toArray⟩ : ByteArray) = xs at c0 hse
        clear hS
        go_wp2_with fail
        refine (demand_no _).mono ?_; rintro e w7 ⟨rfl, rfl⟩
        go_wp2_with fail
        have kk := HK.out
        have b0 : wr.cell? ⟨w.heap.size + 1, 0, none⟩ = some (.int .u8 0) := (HWB.out.cell (p := ⟨w.heap.size + 1, 0, none⟩) (by show w.heap.size + 1 < _; rw [HSZ.out]; omega)).trans kk.1
        have b1 : wr.cell? ⟨w.heap.size + 1, 1, none⟩ = some (.slice none 0 0) := (HWB.out.cell (p := ⟨w.heap.size + 1, 1, none⟩) (by show w.heap.size + 1 < _; rw [HSZ.out]; omega)).trans kk.2.1
        have b2 : wr.cell? ⟨w.heap.size + 1, 2, none⟩ = some (.slice none 0 0) := (HWB.out.cell (p := ⟨w.heap.size + 1, 2, none⟩) (by show w.heap.size + 1 < _; rw [HSZ.out]; omega)).trans kk.2.2.1
        have b3 : wr.cell? ⟨w.heap.size + 1 + 1, 0, none⟩ = some (.int .i64 0) := (HWB.out.cell (p := ⟨w.heap.size + 1 + 1, 0, none⟩) (by show w.heap.size + 1 + 1 < _; rw [HSZ.out]; omega)).trans kk.2.2.2.1
        have g0 : wr.frozen? ⟨w.heap.size + 1, 0, none⟩ = false := (HWB.out.frozen (p := ⟨w.heap.size + 1, 0, none⟩) (by show w.heap.size + 1 < _; rw [HSZ.out]; omega)).trans kk.2.2.2.2.1
        have g1 : wr.frozen? ⟨w.heap.size + 1, 1, none⟩ = false := (HWB.out.frozen (p := ⟨w.heap.size + 1, 1, none⟩) (by show w.heap.size + 1 < _; rw [HSZ.out]; omega)).trans kk.2.2.2.2.2.1
        have g2 : wr.frozen? ⟨w.heap.size + 1, 2, none⟩ = false := (HWB.out.frozen (p := ⟨w.heap.size + 1, 2, none⟩) (by show w.heap.size + 1 < _; rw [HSZ.out]; omega)).trans kk.2.2.2.2.2.2.1
        have g3 : wr.frozen? ⟨w.heap.size + 1 + 1, 0, none⟩ = false := (HWB.out.frozen (p := ⟨w.heap.size + 1 + 1, 0, none⟩) (by show w.heap.size + 1 + 1 < _; rw [HSZ.out]; omega)).trans kk.2.2.2.2.2.2.2
        clear kk
        unfold errV
        refine leaves_cons (f := 33) (args := #[.pointer (some ⟨w.heap.size + 1, 0, none⟩), .pointer (some ⟨w.heap.size + 1 + 1, 0, none⟩)]) (by simp) (by simp [go_sem]) ?_
        refine (catch_read (w.heap.size + 1) (w.heap.size + 1 + 1) _ _ _ _ _ _ _ _ (by omega) b0 b1 b2 b3 g0 g1 g2 g3).mono ?_
        rintro e u' w'' ⟨rfl, rfl, rfl⟩
        have HNO := Lib.hid (show R = none from HDN.out)
        have HBB := Lib.hid (HB.out.trans (HWB.out.mono (by rw [HSZ.out]; omega)))
        rw [HNO.out]
        simp [Leaves, settle, results, Tryz.results25, go_sem, b0, b1, b2, b3]
        exact ⟨rfl, (((HBB.out.setCell (by show w.heap.size ≤ w.heap.size + 1; omega) _).setCell (by show w.heap.size ≤ w.heap.size + 1; omega) _).setCell (by show w.heap.size ≤ w.heap.size + 1; omega) _).setCell (by show w.heap.size ≤ w.heap.size + 1 + 1; omega) _⟩
end Go.Proofs.YtmofnkinclckoaaGreatDoor
