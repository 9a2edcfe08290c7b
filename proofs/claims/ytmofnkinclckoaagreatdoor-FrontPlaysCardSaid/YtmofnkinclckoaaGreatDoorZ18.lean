/- Contracts and mathematics: DReadcancel, DRead, DDec, KM. -/
import Derived.Test.YtmofnkinclckoaaGreatDoorZ16
import Derived.Test.YtmofnkinclckoaaGreatDoorZ17
import Derived.Test.YtmofnkinclckoaaGreatDoorZ9
namespace Go.Proofs.YtmofnkinclckoaaGreatDoor
open Go.RowKit Go.Lib Go.WideShapes

set_option maxRecDepth 100000 in
set_option maxHeartbeats 16000000 in
theorem read_cancel (w : World) (c : UInt8) (S : Bs) (hl : S.length ≤ 800000) (hc : c = 0) (hcan : isCancel S = true) :
    Calls Tryz.prog 25 #[.bool false, .agg #[.int .u8 (c.toNat : Nat), .string ⟨S.toArray⟩]] w (MsgOut w c 2 (readL false c S)) := by
  have hmf : ∀ (fn : Fn) (first cap : Array Value) (w : World), (Instr.makeFunc fn first cap).run Tryz.prog w = .ok (.func fn first cap) w := fun _ _ _ _ => rfl
  obtain ⟨ci, hci⟩ : ∃ ci : Int, ci = (c.toNat : Nat) := ⟨_, rfl⟩
  obtain ⟨sb, hsb⟩ : ∃ sb : ByteArray, sb = ⟨S.toArray⟩ := ⟨_, rfl⟩
  obtain ⟨R, hR⟩ : ∃ R, R = readL false c S := ⟨_, rfl⟩
  rw [← hR, ← hci, ← hsb]
  have HCI := Lib.hid hci; have HR := Lib.hid hR
  obtain ⟨W0, hW0⟩ : ∃ x, x = ((w.alloc (.cells #[.int .u8 ci, .string sb] 50)).alloc (.cells #[.int .u8 0, .slice none 0 0, .slice none 0 0] 54)).alloc (.cells #[.int .i64 0] 40) := ⟨_, rfl⟩
  have hsz : W0.heap.size = w.heap.size + 1 + 1 + 1 := by rw [hW0]; simp
  have HB := Lib.hid (show Below w.heap.size w W0 by rw [hW0]; exact (((Below.refl _ _).alloc (Nat.le_refl _) _).alloc (by simp) _).alloc (by simp; omega) _)
  have HK := Lib.hid (show W0.cell? ⟨w.heap.size + 1, 0, none⟩ = some (.int .u8 0) ∧ W0.cell? ⟨w.heap.size + 1, 1, none⟩ = some (.slice none 0 0) ∧ W0.cell? ⟨w.heap.size + 1, 2, none⟩ = some (.slice none 0 0) ∧ W0.cell? ⟨w.heap.size + 1 + 1, 0, none⟩ = some (.int .i64 0) ∧ W0.frozen? ⟨w.heap.size + 1, 0, none⟩ = false ∧ W0.frozen? ⟨w.heap.size + 1, 1, none⟩ = false ∧ W0.frozen? ⟨w.heap.size + 1, 2, none⟩ = false ∧ W0.frozen? ⟨w.heap.size + 1 + 1, 0, none⟩ = false by rw [hW0]; simp [go_sem])
  have F0 := Lib.hid (show ∀ W, Below W0.heap.size W0 W → W.cell? ⟨w.heap.size, 0, none⟩ = some (.int .u8 ci) ∧ W.cell? ⟨w.heap.size, 1, none⟩ = some (.string sb) from by
    intro W hW
    have k : ∀ i, W.cell? ⟨w.heap.size, i, none⟩ = W0.cell? ⟨w.heap.size, i, none⟩ := fun i => hW.cell (p := ⟨w.heap.size, i, none⟩) (by show w.heap.size < _; omega)
    exact ⟨(k 0).trans (by rw [hW0]; simp [go_sem]), (k 1).trans (by rw [hW0]; simp [go_sem])⟩)
  have HNEW := Lib.hid (isd_new W0 S)
  have HRR := Lib.hid (show droom ⟨S, [], []⟩ ≤ 850000 by show S.length + 0 ≤ _; omega)
  have HE := Lib.hid hW0
  have HSZ := Lib.hid hsz
  have HIC := Lib.hid (fun W => iscancel_any W S hl)
  rw [← hsb] at HNEW HIC
  have HLY := Lib.hid (fun W => lay_any W false c)
  rw [← hci] at HLY
  clear hW0 hsz hR hsb hl
  have hcb : (ci == 0) = true := by rw [hci, hc]; rfl
  have HR := Lib.hid (show R = (rAll [105, 105, 105] ⟨S, [], []⟩).bind rDone by rw [HR.out, hc]; exact readL_cancel hcan)
  rw [hcan] at HIC
  obtain ⟨l0, hl0⟩ : ∃ l0, lay false c = some l0 := ⟨_, by rw [hc]; exact lay_bare⟩
  rw [hl0] at HLY
  clear hci hcan hc hl0
  obtain ⟨l, hl'⟩ : ∃ l' : Bs, l' = [105, 105, 105] := ⟨_, rfl⟩
  have HLET := Lib.hid (show ∀ d ∈ l, letter d = true by rw [hl']; decide)
  have HL5 := Lib.hid (show l.length ≤ 5 by rw [hl']; decide)
  rw [← hl'] at HR
  have HLE := Lib.hid hl'
  clear hl'
  go_enter_defers Tryz.func25, Tryz.ntmps25
  go_wp2_with fail
  refine (HLY.out _).mono ?_; rintro e w1 ⟨rfl, rfl⟩
  unfold layV
  go_wp2_with fail
  refine (demand_ok _).mono ?_; rintro e w2 ⟨rfl, rfl⟩
  go_wp2_with fail
  refine (HIC.out _).mono ?_; rintro e w3 ⟨rfl, hb⟩
  rw [← HE.out] at hb
  have HIQ := Lib.hid (show IsD W0 w3 ⟨S, [], []⟩ from by obtain ⟨tv, nv, hD⟩ := HNEW.out; exact ⟨tv, nv, hD.grow hb⟩)
  clear hb hcb
  go_wp2_with fail
  obtain ⟨L, hL⟩ : ∃ L : ByteArray, L = { data := #[105, 105, 105] } := ⟨_, rfl⟩
  have HLL := Lib.hid (show bytes L = l by rw [hL, HLE.out])
  have hl5 : L.size ≤ 5 := by rw [← blen, HLL.out]; exact HL5.out
  have HLS := Lib.hid (show L.size = 3 by rw [← blen, HLL.out, HLE.out]; rfl)
  rw [← hL]
  clear hL
  go_loopg [38] 3 (fun g i wr => ∃ (j : Nat) (x : RS), i = .int .i64 j ∧ j ≤ 3 ∧ g = 3 - j ∧ (rAll (l.take j) ⟨S, [], []⟩ = some x) ∧ droom x ≤ 850000 ∧ IsD W0 wr x)
  case atStart => exact ⟨0, _, rfl, Nat.zero_le _, rfl, rfl, HRR.out, HIQ.out⟩
  case round =>
    obtain ⟨j, x, rfl, hj, hg, hall, hr2, hI⟩ := hrel
    have HALL := Lib.hid hall; have HG := Lib.hid hg; have HI := Lib.hid hI
    clear hall hg hI
    by_cases hlt0 : j < 3
    · have hltn : (j : Int) < 3 := by omega
      have hlt : j < L.size := by rw [HLS.out]; exact hlt0
      have hlt' : (j : Int) < L.size := by omega
      have hlj : l[j]? = some L[j] := by rw [← HLL.out]; exact List.getElem?_eq_getElem (by rw [blen]; exact hlt)
      have HLJ := Lib.hid (HLET.out L[j] (List.mem_of_getElem? hlj))
      have HAN := Lib.hid (fun x' => rAll_next (x' := x') HALL.out hlj)
      have HAF := Lib.hid (rAll_fail HALL.out hlj)
      clear hlj
      have HF := dfield_any W0 wr x L[j] HLJ.out hr2 HI.out
      rw [HSZ.out] at HF
      have HF := Lib.hid HF
      go_wp2_with fail
      refine HF.out.mono ?_; rintro e w6 (⟨x', hx, rfl, hI⟩ | ⟨hx, rfl, hB⟩)
      · have HI6 := Lib.hid hI
        have HN6 := Lib.hid (HAN.out x' hx)
        have hr6 : droom x' ≤ 850000 := Nat.le_trans (nar_field _ _ _ hx) hr2
        clear hx hI
        go_wp2_with fail
        go_roundg (3 - (j + 1))
        case measure => have := HG.out; omega
        case rel => exact ⟨j + 1, x', by go_num, by omega, rfl, HN6.out, hr6, HI6.out⟩
      · have HN6 := Lib.hid (HAF.out hx)
        clear hx
        go_wp2_with fail
        have kk := HK.out
        have b0 : w6.cell? ⟨w.heap.size + 1, 0, none⟩ = some (.int .u8 0) := (hB.cell (p := ⟨w.heap.size + 1, 0, none⟩) (by show w.heap.size + 1 < _; rw [HSZ.out]; omega)).trans kk.1
        have b1 : w6.cell? ⟨w.heap.size + 1, 1, none⟩ = some (.slice none 0 0) := (hB.cell (p := ⟨w.heap.size + 1, 1, none⟩) (by show w.heap.size + 1 < _; rw [HSZ.out]; omega)).trans kk.2.1
        have b2 : w6.cell? ⟨w.heap.size + 1, 2, none⟩ = some (.slice none 0 0) := (hB.cell (p := ⟨w.heap.size + 1, 2, none⟩) (by show w.heap.size + 1 < _; rw [HSZ.out]; omega)).trans kk.2.2.1
        have b3 : w6.cell? ⟨w.heap.size + 1 + 1, 0, none⟩ = some (.int .i64 0) := (hB.cell (p := ⟨w.heap.size + 1 + 1, 0, none⟩) (by show w.heap.size + 1 + 1 < _; rw [HSZ.out]; omega)).trans kk.2.2.2.1
        have g0 : w6.frozen? ⟨w.heap.size + 1, 0, none⟩ = false := (hB.frozen (p := ⟨w.heap.size + 1, 0, none⟩) (by show w.heap.size + 1 < _; rw [HSZ.out]; omega)).trans kk.2.2.2.2.1
        have g1 : w6.frozen? ⟨w.heap.size + 1, 1, none⟩ = false := (hB.frozen (p := ⟨w.heap.size + 1, 1, none⟩) (by show w.heap.size + 1 < _; rw [HSZ.out]; omega)).trans kk.2.2.2.2.2.1
        have g2 : w6.frozen? ⟨w.heap.size + 1, 2, none⟩ = false := (hB.frozen (p := ⟨w.heap.size + 1, 2, none⟩) (by show w.heap.size + 1 < _; rw [HSZ.out]; omega)).trans kk.2.2.2.2.2.2.1
        have g3 : w6.frozen? ⟨w.heap.size + 1 + 1, 0, none⟩ = false := (hB.frozen (p := ⟨w.heap.size + 1 + 1, 0, none⟩) (by show w.heap.size + 1 + 1 < _; rw [HSZ.out]; omega)).trans kk.2.2.2.2.2.2.2
        clear kk
        unfold errV
        refine leaves_cons (f := 33) (args := #[.pointer (some ⟨w.heap.size + 1, 0, none⟩), .pointer (some ⟨w.heap.size + 1 + 1, 0, none⟩)]) (by simp) (by simp [go_sem]) ?_
        refine (catch_read (w.heap.size + 1) (w.heap.size + 1 + 1) _ _ _ _ _ _ _ _ (by omega) b0 b1 b2 b3 g0 g1 g2 g3).mono ?_
        rintro e u' w'' ⟨rfl, rfl, rfl⟩
        have HNO := Lib.hid (show R = none from HR.out.trans (by rw [HN6.out]; rfl))
        have HBB := Lib.hid (HB.out.trans (hB.mono (by rw [HSZ.out]; omega)))
        rw [HNO.out]
        simp [Leaves, settle, results, Tryz.results25, go_sem, b0, b1, b2, b3]
        exact ⟨rfl, (((HBB.out.setCell (by show w.heap.size ≤ w.heap.size + 1; omega) _).setCell (by show w.heap.size ≤ w.heap.size + 1; omega) _).setCell (by show w.heap.size ≤ w.heap.size + 1; omega) _).setCell (by show w.heap.size ≤ w.heap.size + 1 + 1; omega) _⟩
    · have hjz : j = L.size := by rw [HLS.out]; omega
      have HALL := Lib.hid (show rAll l ⟨S, [], []⟩ = some x by have h := HALL.out; rw [hjz, ← blen, HLL.out, List.take_length] at h; exact h)
      have hge : ¬ (j : Int) < 3 := by omega
      have HDN := Lib.hid (show R = rDone x by rw [HR.out, HALL.out]; rfl)
      obtain ⟨tv, nv, hD⟩ := HI.out
      have c0 := hD.c0
      have c1 := hD.c1
      have c2 := hD.c2
      rw [HSZ.out] at c0 c1 c2
      have HD := Lib.hid hD
      have HWB := Lib.hid hD.below
      clear hjz hD
      by_cases hS : x.S = []
      · have hse : ((⟨x.S.toArray⟩ : ByteArray).toList == ([] : List UInt8)) = true := by rw [hS, toList_eq]; rfl
        have HDN := Lib.hid (show R = some (x.T, x.N) by rw [HDN.out]; exact if_pos hS)
        generalize (⟨x.S.toArray⟩ : ByteArray) = xs at c0 hse
        clear hS
        go_wp2_with fail
        refine (demand_ok _).mono ?_; rintro e w7 ⟨rfl, rfl⟩
        have kk := HK.out
        have b0 : wr.cell? ⟨w.heap.size + 1, 0, none⟩ = some (.int .u8 0) := (HWB.out.cell (p := ⟨w.heap.size + 1, 0, none⟩) (by show w.heap.size + 1 < _; rw [HSZ.out]; omega)).trans kk.1
        have b1 : wr.cell? ⟨w.heap.size + 1, 1, none⟩ = some (.slice none 0 0) := (HWB.out.cell (p := ⟨w.heap.size + 1, 1, none⟩) (by show w.heap.size + 1 < _; rw [HSZ.out]; omega)).trans kk.2.1
        have b2 : wr.cell? ⟨w.heap.size + 1, 2, none⟩ = some (.slice none 0 0) := (HWB.out.cell (p := ⟨w.heap.size + 1, 2, none⟩) (by show w.heap.size + 1 < _; rw [HSZ.out]; omega)).trans kk.2.2.1
        have b3 : wr.cell? ⟨w.heap.size + 1 + 1, 0, none⟩ = some (.int .i64 0) := (HWB.out.cell (p := ⟨w.heap.size + 1 + 1, 0, none⟩) (by show w.heap.size + 1 + 1 < _; rw [HSZ.out]; omega)).trans kk.2.2.2.1
        have g0 : wr.frozen? ⟨w.heap.size + 1, 0, none⟩ = false := (HWB.out.frozen (p := ⟨w.heap.size + 1, 0, none⟩) (by show w.heap.size + 1 < _; rw [HSZ.out]; omega)).trans kk.2.2.2.2.1
        have g1 : wr.frozen? ⟨w.heap.size + 1, 1, none⟩ = false := (HWB.out.frozen (p := ⟨w.heap.size + 1, 1, none⟩) (by show w.heap.size + 1 < _; rw [HSZ.out]; omega)).trans kk.2.2.2.2.2.1
        have g2 : wr.frozen? ⟨w.heap.size + 1, 2, none⟩ = false := (HWB.out.frozen (p := ⟨w.heap.size + 1, 2, none⟩) (by show w.heap.size + 1 < _; rw [HSZ.out]; omega)).trans kk.2.2.2.2.2.2.1
        have g3 : wr.frozen? ⟨w.heap.size + 1 + 1, 0, none⟩ = false := (HWB.out.frozen (p := ⟨w.heap.size + 1 + 1, 0, none⟩) (by show w.heap.size + 1 + 1 < _; rw [HSZ.out]; omega)).trans kk.2.2.2.2.2.2.2
        clear kk
        have kf := F0.out wr HWB.out
        obtain ⟨ta, tc, rfl⟩ := ownsRow_form HD.out.texts
        obtain ⟨na, nc, rfl⟩ := ownsRow_form HD.out.nums
        have k0 := kf.1
        have HTX := Lib.hid HD.out.texts
        have HNM := Lib.hid HD.out.nums
        have HBB := Lib.hid (HB.out.trans (HWB.out.mono (by rw [HSZ.out]; omega)))
        rw [HSZ.out] at HTX HNM
        clear kf
        go_upto_region 13 with (fail)
        go_region
        all_goals
          go_wp2_with fail
          refine leaves_cons (f := 33) (args := #[.pointer (some ⟨w.heap.size + 1, 0, none⟩), .pointer (some ⟨w.heap.size + 1 + 1, 0, none⟩)]) (by simp) (by simp [go_sem]) ?_
          refine (catch_idle_read _ _ _).mono ?_
          rintro e u' w'' ⟨rfl, rfl, rfl⟩
          rw [HDN.out]
          simp [Leaves, settle, results, Tryz.results25, go_sem, b0, b1, b2, b3]
          refine ⟨_, _, by rw [HCI.out], own_base (own_four HTX.out _ _ (by omega) (by omega) _ _ _ _) (by omega), own_base (own_four HNM.out _ _ (by omega) (by omega) _ _ _ _) (by omega), ((((HBB.out.setCell (by show w.heap.size ≤ w.heap.size + 1; omega) _).setCell (by show w.heap.size ≤ w.heap.size + 1; omega) _).setCell (by show w.heap.size ≤ w.heap.size + 1; omega) _).setCell (by show w.heap.size ≤ w.heap.size + 1 + 1; omega) _).drew⟩
      · have hse : ((⟨x.S.toArray⟩ : ByteArray).toList == ([] : List UInt8)) = false := by
          rw [toList_eq, beq_eq_false_iff_ne]; intro e
          exact hS e
        have HDN := Lib.hid (show R = none by rw [HDN.out]; exact if_neg hS)
        generalize (⟨x.S.toArray⟩ : ByteArray) = xs at c0 hse
        clear hS
        go_wp2_with fail
        refine (demand_no _).mono ?_; rintro e w7 ⟨rfl, rfl⟩
        go_wp2_with fail
        have kk := HK.out
        have b0 : wr.cell? ⟨w.heap.size + 1, 0, none⟩ = some (.int .u8 0) := (HWB.out.cell (p := ⟨w.heap.size + 1, 0, none⟩) (by show w.heap.size + 1 < _; rw [HSZ.out]; omega)).trans kk.1
        have b1 : wr.cell? ⟨w.heap.size + 1, 1, none⟩ = some (.slice none 0 0) := (HWB.out.cell (p := ⟨w.heap.size + 1, 1, none⟩) (by show w.heap.size + 1 < _; rw [HSZ.out]; omega)).trans kk.2.1
        have b2 : wr.cell? ⟨w.heap.size + 1, 2, none⟩ = some (.slice none 0 0) := (HWB.out.cell (p := ⟨w.heap.size + 1, 2, none⟩) (by show w.heap.size + 1 < _; rw [HSZ.out]; omega)).trans kk.2.2.1
        have b3 : wr.cell? ⟨w.heap.size + 1 + 1, 0, none⟩ = some (.int .i64 0) := (HWB.out.cell (p := ⟨w.heap.size + 1 + 1, 0, none⟩) (by show w.heap.size + 1 + 1 < _; rw [HSZ.out]; omega)).trans kk.2.2.2.1
        have g0 : wr.frozen? ⟨w.heap.size + 1, 0, none⟩ = false := (HWB.out.frozen (p := ⟨w.heap.size + 1, 0, none⟩) (by show w.heap.size + 1 < _; rw [HSZ.out]; omega)).trans kk.2.2.2.2.1
        have g1 : wr.frozen? ⟨w.heap.size + 1, 1, none⟩ = false := (HWB.out.frozen (p := ⟨w.heap.size + 1, 1, none⟩) (by show w.heap.size + 1 < _; rw [HSZ.out]; omega)).trans kk.2.2.2.2.2.1
        have g2 : wr.frozen? ⟨w.heap.size + 1, 2, none⟩ = false := (HWB.out.frozen (p := ⟨w.heap.size + 1, 2, none⟩) (by show w.heap.size + 1 < _; rw [HSZ.out]; omega)).trans kk.2.2.2.2.2.2.1
        have g3 : wr.frozen? ⟨w.heap.size + 1 + 1, 0, none⟩ = false := (HWB.out.frozen (p := ⟨w.heap.size + 1 + 1, 0, none⟩) (by show w.heap.size + 1 + 1 < _; rw [HSZ.out]; omega)).trans kk.2.2.2.2.2.2.2
        clear kk
        unfold errV
        refine leaves_cons (f := 33) (args := #[.pointer (some ⟨w.heap.size + 1, 0, none⟩), .pointer (some ⟨w.heap.size + 1 + 1, 0, none⟩)]) (by simp) (by simp [go_sem]) ?_
        refine (catch_read (w.heap.size + 1) (w.heap.size + 1 + 1) _ _ _ _ _ _ _ _ (by omega) b0 b1 b2 b3 g0 g1 g2 g3).mono ?_
        rintro e u' w'' ⟨rfl, rfl, rfl⟩
        have HNO := Lib.hid (show R = none from HDN.out)
        have HBB := Lib.hid (HB.out.trans (HWB.out.mono (by rw [HSZ.out]; omega)))
        rw [HNO.out]
        simp [Leaves, settle, results, Tryz.results25, go_sem, b0, b1, b2, b3]
        exact ⟨rfl, (((HBB.out.setCell (by show w.heap.size ≤ w.heap.size + 1; omega) _).setCell (by show w.heap.size ≤ w.heap.size + 1; omega) _).setCell (by show w.heap.size ≤ w.heap.size + 1; omega) _).setCell (by show w.heap.size ≤ w.heap.size + 1 + 1; omega) _⟩
end Go.Proofs.YtmofnkinclckoaaGreatDoor

namespace Go.Proofs.YtmofnkinclckoaaGreatDoor
open Go.RowKit Go.Lib Go.WideShapes

theorem read_any (w : World) (back : Bool) (c : UInt8) (S : Bs) (hl : S.length ≤ 800000) :
    Calls Tryz.prog 25 #[.bool back, .agg #[.int .u8 (c.toNat : Nat), .string ⟨S.toArray⟩]] w (MsgOut w c 2 (readL back c S)) := by
  cases hlay : lay back c with
  | none => exact read_none w back c S hl hlay
  | some l =>
    cases back with
    | true => exact read_back w c S hl l hlay
    | false =>
      by_cases hc : c = 0
      · cases hcan : isCancel S with
        | true => exact read_cancel w c S hl hc hcan
        | false => exact read_bare w c S hl l hlay hc hcan
      · exact read_plain w c S hl l hlay hc
end Go.Proofs.YtmofnkinclckoaaGreatDoor

namespace Go.Proofs.YtmofnkinclckoaaGreatDoor
open Go.RowKit Go.Lib Go.WideShapes

/-- What Decode answers for a body. -/
def readD (back : Bool) (c : UInt8) (S : Bs) : Option (List Bs × List Int) := if 10000 < S.length then none else readL back c S

theorem own_three {w : World} {base n : Nat} {e : TypeId} {v : Value} {xs : List Value} (h : w.ownsRow base e 1 v n xs) (b : Nat) (hb : b < base) (v0 v1 v2 : Value) : (((w.setCell ⟨b, 0, none⟩ v0).setCell ⟨b, 1, none⟩ v1).setCell ⟨b, 2, none⟩ v2).ownsRow base e 1 v n xs :=
  ownsRow_setCell_below (ownsRow_setCell_below (ownsRow_setCell_below h (a := ⟨b, 0, none⟩) hb v0) (a := ⟨b, 1, none⟩) hb v1) (a := ⟨b, 2, none⟩) hb v2

set_option maxRecDepth 100000 in
set_option maxHeartbeats 8000000 in
theorem decode_any (w : World) (back : Bool) (c : UInt8) (S : Bs) (hl : S.length ≤ 800000) :
    Calls Tryz.prog 16 #[.bool back, .agg #[.int .u8 (c.toNat : Nat), .string ⟨S.toArray⟩]] w (MsgOut w c 2 (readD back c S)) := by
  obtain ⟨ci, hci⟩ : ∃ ci : Int, ci = (c.toNat : Nat) := ⟨_, rfl⟩
  obtain ⟨sb, hsb⟩ : ∃ sb : ByteArray, sb = ⟨S.toArray⟩ := ⟨_, rfl⟩
  have hsz : sb.size = S.length := by rw [hsb, bsize]
  obtain ⟨W0, hW0⟩ : ∃ x, x = (w.alloc (.cells #[.int .u8 ci, .string sb] 50)).alloc (.cells #[.int .u8 0, .slice none 0 0, .slice none 0 0] 54) := ⟨_, rfl⟩
  have hz : W0.heap.size = w.heap.size + 1 + 1 := by rw [hW0]; simp
  have HB := Lib.hid (show Below w.heap.size w W0 by rw [hW0]; exact ((Below.refl _ _).alloc (Nat.le_refl _) _).alloc (by simp) _)
  have HK := Lib.hid (show ∀ W, Below W0.heap.size W0 W → W.cell? ⟨w.heap.size + 1, 0, none⟩ = some (.int .u8 0) ∧ W.cell? ⟨w.heap.size + 1, 1, none⟩ = some (.slice none 0 0) ∧ W.cell? ⟨w.heap.size + 1, 2, none⟩ = some (.slice none 0 0) ∧ W.frozen? ⟨w.heap.size + 1, 0, none⟩ = false ∧ W.frozen? ⟨w.heap.size + 1, 1, none⟩ = false ∧ W.frozen? ⟨w.heap.size + 1, 2, none⟩ = false from by
    intro W hW
    have k : ∀ i, W.cell? ⟨w.heap.size + 1, i, none⟩ = W0.cell? ⟨w.heap.size + 1, i, none⟩ := fun i => hW.cell (p := ⟨w.heap.size + 1, i, none⟩) (by show w.heap.size + 1 < _; omega)
    have f : ∀ i, W.frozen? ⟨w.heap.size + 1, i, none⟩ = W0.frozen? ⟨w.heap.size + 1, i, none⟩ := fun i => hW.frozen (p := ⟨w.heap.size + 1, i, none⟩) (by show w.heap.size + 1 < _; omega)
    refine ⟨(k 0).trans ?_, (k 1).trans ?_, (k 2).trans ?_, (f 0).trans ?_, (f 1).trans ?_, (f 2).trans ?_⟩ <;> (rw [hW0]; simp [go_sem]))
  have HE := Lib.hid hW0
  have HZ := Lib.hid hz
  have HCI := Lib.hid hci
  have HRD := Lib.hid (read_any W0 back c S hl)
  rw [← hci, ← hsb] at HRD
  rw [← hci, ← hsb]
  by_cases hlong : 10000 < S.length
  · have hl' : (10000 : Int) < sb.size := by omega
    have HR := Lib.hid (show readD back c S = none from if_pos hlong)
    rw [HR.out]
    have b := HK.out W0 (Below.refl _ _)
    clear hW0 hz hsb hsz hci hlong hl
    go_enter Tryz.func16, Tryz.ntmps16
    go_wp2_with fail
    simp [bodyPost, results, Tryz.results16, go_sem]
    refine ⟨rfl, ?_⟩
    first | exact ((Below.refl _ _).alloc (Nat.le_refl _) _).alloc (by simp) _ | exact ((((((Below.refl _ _).alloc (Nat.le_refl _) _).alloc (by simp) _).setCell (by simp) _).setCell (by simp) _).setCell (by simp) _)
  · have hl' : ¬ (10000 : Int) < sb.size := by omega
    have HR := Lib.hid (show readD back c S = readL back c S from if_neg hlong)
    rw [HR.out]
    generalize readL back c S = R at HRD ⊢
    clear hW0 hz hsb hsz hci hlong hl
    go_enter Tryz.func16, Tryz.ntmps16
    go_wp2_with fail
    rw [← HE.out]
    cases R with
    | none =>
      refine HRD.out.mono ?_; rintro e w1 ⟨rfl, hb⟩
      obtain ⟨b0, b1, b2, g0, g1, g2⟩ := HK.out w1 hb
      have HB1 := Lib.hid (HB.out.trans (hb.mono (by rw [HZ.out]; omega)))
      clear hb
      go_wp2_with fail
      simp [bodyPost, results, Tryz.results16, go_sem, b0, b1, b2]
      exact ⟨rfl, ((HB1.out.setCell (by show w.heap.size ≤ w.heap.size + 1; omega) _).setCell (by show w.heap.size ≤ w.heap.size + 1; omega) _).setCell (by show w.heap.size ≤ w.heap.size + 1; omega) _⟩
    | some p =>
      obtain ⟨T, N⟩ := p
      refine HRD.out.mono ?_; rintro e w1 ⟨tv, nv, rfl, hT, hN, hb⟩
      obtain ⟨b0, b1, b2, g0, g1, g2⟩ := HK.out w1 hb
      have HB1 := Lib.hid (HB.out.trans (hb.mono (by rw [HZ.out]; omega)))
      rw [HZ.out] at hT hN
      have HT := Lib.hid hT; have HN := Lib.hid hN
      obtain ⟨ta, tc, rfl⟩ := ownsRow_form hT
      obtain ⟨na, nc, rfl⟩ := ownsRow_form hN
      rw [← HCI.out]
      clear hb hT hN
      go_wp2_with fail
      simp [bodyPost, results, Tryz.results16, go_sem, b0, b1, b2]
      exact ⟨_, _, by rw [HCI.out], own_base (own_three HT.out _ (by omega) _ _ _) (by omega), own_base (own_three HN.out _ (by omega) _ _ _) (by omega), ((HB1.out.setCell (by show w.heap.size ≤ w.heap.size + 1; omega) _).setCell (by show w.heap.size ≤ w.heap.size + 1; omega) _).setCell (by show w.heap.size ≤ w.heap.size + 1; omega) _⟩
end Go.Proofs.YtmofnkinclckoaaGreatDoor

namespace Go.Proofs.YtmofnkinclckoaaGreatDoor
open Go.RowKit Go.Lib

/-- An event. -/
structure Ev where
  k : UInt8
  u : Bs
  d : Bs
  t : Bs
  n : List Int

def k_user : Bs := [117, 115, 101, 114]
def k_database : Bs := [100, 97, 116, 97, 98, 97, 115, 101]
def c_bytes : Bs := [48, 56, 80, 48, 49]
def c_done : Bs := [48, 65, 48, 48, 48]
def wrongEv (t : Bs) : Ev := ⟨101, [], [], t, []⟩
/-- The text behind the first one of a name. -/
def behindB : List Bs → Bs → Bs
  | a :: b :: r, x => if a = x then b else behindB r x
  | _, _ => []
def startE (T : List Bs) : Ev := if behindB T k_user = [] then wrongEv c_bytes else ⟨115, behindB T k_user, if behindB T k_database = [] then behindB T k_user else behindB T k_database, [], []⟩
def beginE (T : List Bs) (N : List Int) : Ev := if N.headD 0 = 196608 then startE T else if N.headD 0 = 80877102 then ⟨99, [], [], [], N.tail⟩ else wrongEv c_done
def laterE (c : UInt8) (T : List Bs) : Ev := if c = 81 then ⟨113, [], [], T.headD [], []⟩ else if c = 112 then ⟨112, [], [], T.headD [], []⟩ else if c = 83 then ⟨121, [], [], [], []⟩ else if c = 88 then ⟨120, [], [], [], []⟩ else ⟨117, [], [], [], []⟩
def eventE (b : Bool) (c : UInt8) : Option (List Bs × List Int) → Ev
  | none => wrongEv c_bytes
  | some (T, N) => if b = false then beginE T N else laterE c T
def fin (e : Ev) : Bool := e.k == 120 || e.k == 99 || e.k == 101
/-- The kind of the next frame, and its event. -/
def frameC (s : ByteArray) (b : Bool) : UInt8 := UInt8.ofNat (headT s (!b))
def frameEv (s : ByteArray) (b : Bool) : Ev := eventE b (frameC s b) (readD false (frameC s b) (bytes (frameB s (!b))))
def frameR (s : ByteArray) (b : Bool) : ByteArray := s.extract (frameN s (!b)) s.size

theorem frameC_nat (s : ByteArray) (b : Bool) : (frameC s b).toNat = headT s (!b) := by
  unfold frameC
  have : headT s (!b) < 256 := by unfold headT; split; omega; exact UInt8.toNat_lt _
  simp [UInt8.toNat_ofNat']
  omega

/-- What is told of bytes, and what is left of them; none: it is over. -/
inductive KTold : ByteArray → Bool → List Ev → Option (ByteArray × Bool) → Prop
  | more {s b} (h : frameE s (!b) = 4) : KTold s b [] (some (s, b))
  | wrong {s b} (h : ¬ frameE s (!b) = 4) (h0 : ¬ frameE s (!b) = 0) : KTold s b [wrongEv c_bytes] none
  | last {s b} (h : frameE s (!b) = 0) (hf : fin (frameEv s b) = true) : KTold s b [frameEv s b] none
  | next {s b L st} (h : frameE s (!b) = 0) (hf : fin (frameEv s b) = false) (hr : KTold (frameR s b) true L st) : KTold s b (frameEv s b :: L) st
/-- Frames that end nothing. -/
inductive KRun (s : ByteArray) (b : Bool) : List Ev → ByteArray → Bool → Prop
  | nil : KRun s b [] s b
  | snoc {L s' b'} (hr : KRun s b L s' b') (h : frameE s' (!b') = 0) (hf : fin (frameEv s' b') = false) : KRun s b (L ++ [frameEv s' b']) (frameR s' b') true

theorem KRun.told {s : ByteArray} {b : Bool} {L : List Ev} {s' : ByteArray} {b' : Bool} (h : KRun s b L s' b') : ∀ {L2 : List Ev} {st : Option (ByteArray × Bool)}, KTold s' b' L2 st → KTold s b (L ++ L2) st := by
  induction h with
  | nil => exact fun h2 => h2
  | snoc hr h hf ih =>
    intro L2 st h2
    rw [List.append_assoc]
    exact ih (KTold.next h hf h2)

theorem KTold.det {s : ByteArray} {b : Bool} {L : List Ev} {st : Option (ByteArray × Bool)} (h : KTold s b L st) : ∀ {L' : List Ev} {st' : Option (ByteArray × Bool)}, KTold s b L' st' → L = L' ∧ st = st' := by
  induction h with
  | more h =>
    intro L' st' h2
    cases h2 with
    | more => exact ⟨rfl, rfl⟩
    | wrong h3 => exact absurd h h3
    | last h3 => rw [h] at h3; cases h3
    | next h3 => rw [h] at h3; cases h3
  | wrong h h0 =>
    intro L' st' h2
    cases h2 with
    | more h3 => exact absurd h3 h
    | wrong => exact ⟨rfl, rfl⟩
    | last h3 => exact absurd h3 h0
    | next h3 => exact absurd h3 h0
  | last h hf =>
    intro L' st' h2
    cases h2 with
    | more h3 => rw [h] at h3; cases h3
    | wrong h3 h4 => exact absurd h h4
    | last => exact ⟨rfl, rfl⟩
    | next h3 h4 => rw [hf] at h4; cases h4
  | next h hf hr ih =>
    intro L' st' h2
    cases h2 with
    | more h3 => rw [h] at h3; cases h3
    | wrong h3 h4 => exact absurd h h4
    | last h3 h4 => rw [hf] at h4; cases h4
    | next h3 h4 h5 =>
      obtain ⟨e1, e2⟩ := ih h5
      exact ⟨by rw [e1], e2⟩

theorem frameEv_app {s : ByteArray} {b : Bool} (x : ByteArray) (h : frameE s (!b) = 0) : frameEv (s ++ x) b = frameEv s b := by
  have g := good_frame h
  have h5 := headN_ge (!b)
  have hc : frameC (s ++ x) b = frameC s b := by unfold frameC; rw [headT_app s x (!b) (by have := g.1; omega)]
  unfold frameEv
  rw [hc, frameB_app s x (!b) h]
theorem frameR_app {s : ByteArray} {b : Bool} (x : ByteArray) (h : frameE s (!b) = 0) : frameR (s ++ x) b = frameR s b ++ x := rest_app s x (!b) h

theorem KTold.fed {s : ByteArray} {b : Bool} {L : List Ev} {st : Option (ByteArray × Bool)} (h : KTold s b L st) : ∀ {s' : ByteArray} {b' : Bool} {x : ByteArray} {L2 : List Ev} {st2 : Option (ByteArray × Bool)}, st = some (s', b') → KTold (s' ++ x) b' L2 st2 → KTold (s ++ x) b (L ++ L2) st2 := by
  induction h with
  | more h =>
    intro s' b' x L2 st2 e h2
    cases e
    exact h2
  | wrong h h0 => intro s' b' x L2 st2 e; cases e
  | last h hf => intro s' b' x L2 st2 e; cases e
  | @next s b L st h hf hr ih =>
    intro s' b' x L2 st2 e h2
    have h3 := ih e h2
    have e1 := frameEv_app x h
    have e2 := frameR_app x h
    have e3 := (frameE_app s x (!b) (by rw [h]; decide)).trans h
    rw [← e2] at h3
    rw [← e1] at hf
    have := KTold.next e3 hf h3
    rw [e1] at this
    exact this

theorem cons_evs {a b : Ev} {l r : List Ev} (h : a :: l = b :: r) : a = b ∧ l = r := List.cons.inj h
theorem KTold.over {s : ByteArray} {b : Bool} {L : List Ev} {st : Option (ByteArray × Bool)} (h : KTold s b L st) : (st = none ↔ ∃ A e, L = A ++ [e] ∧ fin e = true) ∧ ∀ A e r, L = A ++ e :: r → r ≠ [] → fin e = false := by
  induction h with
  | more h =>
    refine ⟨⟨fun e => (by cases e), fun ⟨A, e, h, _⟩ => ?_⟩, fun A e r h _ => ?_⟩
    · cases A <;> cases h
    · cases A <;> cases h
  | wrong h h0 =>
    refine ⟨⟨fun _ => ⟨[], _, rfl, rfl⟩, fun _ => rfl⟩, fun A e r h hr => ?_⟩
    cases A with
    | nil => exact absurd (cons_evs h).2.symm hr
    | cons a A => have := (cons_evs h).2; cases A <;> cases this
  | last h hf =>
    refine ⟨⟨fun _ => ⟨[], _, rfl, hf⟩, fun _ => rfl⟩, fun A e r h hr => ?_⟩
    cases A with
    | nil => exact absurd (cons_evs h).2.symm hr
    | cons a A => have := (cons_evs h).2; cases A <;> cases this
  | @next s b L st h hf hr ih =>
    refine ⟨⟨fun e => ?_, fun ⟨A, e, h, h9⟩ => ?_⟩, fun A e r h h0 => ?_⟩
    · obtain ⟨A, x, h1, h2⟩ := ih.1.1 e
      exact ⟨_ :: A, x, by rw [h1]; rfl, h2⟩
    · cases A with
      | nil => have h1 := (cons_evs h).1; rw [h1, h9] at hf; cases hf
      | cons a A => exact ih.1.2 ⟨A, e, (cons_evs h).2, h9⟩
    · cases A with
      | nil => rw [← (cons_evs h).1]; exact hf
      | cons a A => exact ih.2 A e r (cons_evs h).2 h0

/-- A frame that stands at the head. -/
theorem ktold_pack {c : UInt8} {B tail : ByteArray} {b : Bool} {L : List Ev} {st : Option (ByteArray × Bool)} (hb : isBare (c.toNat : Int) = !b) (hB : B.size ≤ 10000) (hf : fin (eventE b c (readD false c (bytes B))) = false) (h : KTold tail true L st) : KTold (packB (c.toNat : Int) B ++ tail) b (eventE b c (readD false c (bytes B)) :: L) st := by
  have hc := UInt8.toNat_lt c
  obtain ⟨h1, h2, h3, h4⟩ := good_pack (c.toNat : Int) (by omega) B tail _ hB rfl
  rw [hb] at h1 h2 h3 h4
  have e0 : frameC (packB (c.toNat : Int) B ++ tail) b = c := UInt8.toNat_inj.1 (by rw [frameC_nat]; omega)
  have e1 : frameEv (packB (c.toNat : Int) B ++ tail) b = eventE b c (readD false c (bytes B)) := by
    unfold frameEv
    rw [e0, h3]
  have e2 : frameR (packB (c.toNat : Int) B ++ tail) b = tail := h4
  rw [← e1]
  exact KTold.next h1 (by rw [e1]; exact hf) (by rw [e2]; exact h)
theorem ktold_pack_last {c : UInt8} {B tail : ByteArray} {b : Bool} (hb : isBare (c.toNat : Int) = !b) (hB : B.size ≤ 10000) (hf : fin (eventE b c (readD false c (bytes B))) = true) : KTold (packB (c.toNat : Int) B ++ tail) b [eventE b c (readD false c (bytes B))] none := by
  have hc := UInt8.toNat_lt c
  obtain ⟨h1, h2, h3, h4⟩ := good_pack (c.toNat : Int) (by omega) B tail _ hB rfl
  rw [hb] at h1 h2 h3 h4
  have e0 : frameC (packB (c.toNat : Int) B ++ tail) b = c := UInt8.toNat_inj.1 (by rw [frameC_nat]; omega)
  have e1 : frameEv (packB (c.toNat : Int) B ++ tail) b = eventE b c (readD false c (bytes B)) := by
    unfold frameEv
    rw [e0, h3]
  rw [← e1]
  exact KTold.last h1 (by rw [e1]; exact hf)
theorem ktold_nil : KTold { data := #[] } true [] (some ({ data := #[] }, true)) := KTold.more rfl
theorem ktold_nil0 : KTold { data := #[] } false [] (some ({ data := #[] }, false)) := KTold.more rfl
end Go.Proofs.YtmofnkinclckoaaGreatDoor
