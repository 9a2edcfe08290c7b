/- Contracts and mathematics: DReadcancel, DRead, DDec, GQuery, PBegins. -/
import Derived.Test.YtpijolcklmdjbaaGreatDoorZ36
import Derived.Test.YtpijolcklmdjbaaGreatDoorZ37
import Derived.Test.YtpijolcklmdjbaaGreatDoorZ31
import Derived.Test.YtpijolcklmdjbaaGreatDoorZ29
import Derived.Test.YtpijolcklmdjbaaGreatDoorZ12
import Derived.BigQuiet
import Derived.WalkSmall
import Derived.Deep.QuietTactic
namespace Go.Proofs.YtpijolcklmdjbaaGreatDoor
open Go.RowKit Go.Lib Go.WideShapes

set_option maxRecDepth 100000 in
set_option maxHeartbeats 16000000 in
theorem read_cancel (w : World) (c : UInt8) (S : Bs) (hl : S.length ≤ 800000) (hc : c = 0) (hcan : isCancel S = true) :
    Calls Tryz.prog 23 #[.bool false, .agg #[.int .u8 (c.toNat : Nat), .string ⟨S.toArray⟩]] w (MsgOut w c 2 (readL false c S)) := by
  have hmf : ∀ (fn : Fn) (first cap : Array Value) (w : World), (Instr.makeFunc fn first cap).run Tryz.prog w = .ok (.func fn first cap) w := fun _ _ _ _ => rfl
  obtain ⟨ci, hci⟩ : ∃ ci : Int, ci = (c.toNat : Nat) := ⟨_, rfl⟩
  obtain ⟨sb, hsb⟩ : ∃ sb : ByteArray, sb = ⟨S.toArray⟩ := ⟨_, rfl⟩
  obtain ⟨R, hR⟩ : ∃ R, R = readL false c S := ⟨_, rfl⟩
  rw [← hR, ← hci, ← hsb]
  have HCI := Lib.hid hci; have HR := Lib.hid hR
  obtain ⟨W0, hW0⟩ : ∃ x, x = ((w.alloc (.cells #[.int .u8 ci, .string sb] 33)).alloc (.cells #[.int .u8 0, .slice none 0 0, .slice none 0 0] 39)).alloc (.cells #[.int .i64 0] 26) := ⟨_, rfl⟩
  have hsz : W0.heap.size = w.heap.size + 1 + 1 + 1 := by rw [hW0]; simp
  have HB := Lib.hid (show Below w.heap.size w W0 by rw [hW0]; exact (((Below.refl _ _).alloc (Nat.le_refl _) _).alloc (by simp) _).alloc (by simp; omega) _)
  have HK := Lib.hid (show W0.cell? ⟨w.heap.size + 1, 0, none⟩ = some (.int .u8 0) ∧ W0.cell? ⟨w.heap.size + 1, 1, none⟩ = some (.slice none 0 0) ∧ W0.cell? ⟨w.heap.size + 1, 2, none⟩ = some (.slice none 0 0) ∧ W0.cell? ⟨w.heap.size + 1 + 1, 0, none⟩ = some (.int .i64 0) ∧ W0.frozen? ⟨w.heap.size + 1, 0, none⟩ = false ∧ W0.frozen? ⟨w.heap.size + 1, 1, none⟩ = false ∧ W0.frozen? ⟨w.heap.size + 1, 2, none⟩ = false ∧ W0.frozen? ⟨w.heap.size + 1 + 1, 0, none⟩ = false by rw [hW0]; simp [go_sem])
  have F0 := Lib.hid (show ∀ W, Below W0.heap.size W0 W → W.cell? ⟨w.heap.size, 0, none⟩ = some (.int .u8 ci) ∧ W.cell? ⟨w.heap.size, 1, none⟩ = some (.string sb) from by
    intro W hW
    have k : ∀ i, W.cell? ⟨w.heap.size, i, none⟩ = W0.cell? ⟨w.heap.size, i, none⟩ := fun i => hW.cell (p := ⟨w.heap.size, i, none⟩) (by show w.heap.size < _; omega)
    exact ⟨(k 0).trans (by rw [hW0]; simp [go_sem]), (k 1).trans (by rw [hW0]; simp [go_sem])⟩)
  have HNEW := Lib.hid (isd_new W0 S)
  have HRR := Lib.hid (show droom ⟨S, [], []⟩ ≤ 850000 by show S.length + 0 ≤ _; omega)
  have HE := Lib.hid hW0
  have HSZ := Lib.hid hsz
  have HIC := Lib.hid (fun W => iscancel_any W S hl)
  rw [← hsb] at HNEW HIC
  have HLY := Lib.hid (fun W => lay_any W false c)
  rw [← hci] at HLY
  clear hW0 hsz hR hsb hl
  have hcb : (ci == 0) = true := by rw [hci, hc]; rfl
  have HR := Lib.hid (show R = (rAll [105, 105, 105] ⟨S, [], []⟩).bind rDone by rw [HR.out, hc]; exact readL_cancel hcan)
  rw [hcan] at HIC
  obtain ⟨l0, hl0⟩ : ∃ l0, lay false c = some l0 := ⟨_, by rw [hc]; exact lay_bare⟩
  rw [hl0] at HLY
  clear hci hcan hc hl0
  obtain ⟨l, hl'⟩ : ∃ l' : Bs, l' = [105, 105, 105] := ⟨_, rfl⟩
  have HLET := Lib.hid (show ∀ d ∈ l, letter d = true by rw [hl']; decide)
  have HL5 := Lib.hid (show l.length ≤ 5 by rw [hl']; decide)
  rw [← hl'] at HR
  have HLE := Lib.hid hl'
  clear hl'
  go_enter_defers Tryz.func23, Tryz.ntmps23
  go_wp2_with fail
  refine (HLY.out _).mono ?_; rintro e w1 ⟨rfl, rfl⟩
  unfold layV
  go_wp2_with fail
  refine (demand_ok _).mono ?_; rintro e w2 ⟨rfl, rfl⟩
  go_wp2_with fail
  refine (HIC.out _).mono ?_; rintro e w3 ⟨rfl, hb⟩
  rw [← HE.out] at hb
  have HIQ := Lib.hid (show IsD W0 w3 ⟨S, [], []⟩ from by obtain ⟨tv, nv, hD⟩ := HNEW.out; exact ⟨tv, nv, hD.grow hb⟩)
  clear hb hcb
  go_wp2_with fail
  obtain ⟨L, hL⟩ : ∃ L : ByteArray, L = { data := #[105, 105, 105] } := ⟨_, rfl⟩
  have HLL := Lib.hid (show bytes L = l by rw [hL, HLE.out])
  have hl5 : L.size ≤ 5 := by rw [← blen, HLL.out]; exact HL5.out
  have HLS := Lib.hid (show L.size = 3 by rw [← blen, HLL.out, HLE.out]; rfl)
  rw [← hL]
  clear hL
  go_loopg [38] 3 (fun g i wr => ∃ (j : Nat) (x : RS), i = .int .i64 j ∧ j ≤ 3 ∧ g = 3 - j ∧ (rAll (l.take j) ⟨S, [], []⟩ = some x) ∧ droom x ≤ 850000 ∧ IsD W0 wr x)
  case atStart => exact ⟨0, _, rfl, Nat.zero_le _, rfl, rfl, HRR.out, HIQ.out⟩
  case round =>
    obtain ⟨j, x, rfl, hj, hg, hall, hr2, hI⟩ := hrel
    have HALL := Lib.hid hall; have HG := Lib.hid hg; have HI := Lib.hid hI
    clear hall hg hI
    by_cases hlt0 : j < 3
    · have hltn : (j : Int) < 3 := by omega
      have hlt : j < L.size := by rw [HLS.out]; exact hlt0
      have hlt' : (j : Int) < L.size := by omega
      have hlj : l[j]? = some L[j] := by rw [← HLL.out]; exact List.getElem?_eq_getElem (by rw [blen]; exact hlt)
      have HLJ := Lib.hid (HLET.out L[j] (List.mem_of_getElem? hlj))
      have HAN := Lib.hid (fun x' => rAll_next (x' := x') HALL.out hlj)
      have HAF := Lib.hid (rAll_fail HALL.out hlj)
      clear hlj
      have HF := dfield_any W0 wr x L[j] HLJ.out hr2 HI.out
      rw [HSZ.out] at HF
      have HF := Lib.hid HF
      go_wp2_with fail
      refine HF.out.mono ?_; rintro e w6 (⟨x', hx, rfl, hI⟩ | ⟨hx, rfl, hB⟩)
      · have HI6 := Lib.hid hI
        have HN6 := Lib.hid (HAN.out x' hx)
        have hr6 : droom x' ≤ 850000 := Nat.le_trans (nar_field _ _ _ hx) hr2
        clear hx hI
        go_wp2_with fail
        go_roundg (3 - (j + 1))
        case measure => have := HG.out; omega
        case rel => exact ⟨j + 1, x', by go_num, by omega, rfl, HN6.out, hr6, HI6.out⟩
      · have HN6 := Lib.hid (HAF.out hx)
        clear hx
        go_wp2_with fail
        have kk := HK.out
        have b0 : w6.cell? ⟨w.heap.size + 1, 0, none⟩ = some (.int .u8 0) := (hB.cell (p := ⟨w.heap.size + 1, 0, none⟩) (by show w.heap.size + 1 < _; rw [HSZ.out]; omega)).trans kk.1
        have b1 : w6.cell? ⟨w.heap.size + 1, 1, none⟩ = some (.slice none 0 0) := (hB.cell (p := ⟨w.heap.size + 1, 1, none⟩) (by show w.heap.size + 1 < _; rw [HSZ.out]; omega)).trans kk.2.1
        have b2 : w6.cell? ⟨w.heap.size + 1, 2, none⟩ = some (.slice none 0 0) := (hB.cell (p := ⟨w.heap.size + 1, 2, none⟩) (by show w.heap.size + 1 < _; rw [HSZ.out]; omega)).trans kk.2.2.1
        have b3 : w6.cell? ⟨w.heap.size + 1 + 1, 0, none⟩ = some (.int .i64 0) := (hB.cell (p := ⟨w.heap.size + 1 + 1, 0, none⟩) (by show w.heap.size + 1 + 1 < _; rw [HSZ.out]; omega)).trans kk.2.2.2.1
        have g0 : w6.frozen? ⟨w.heap.size + 1, 0, none⟩ = false := (hB.frozen (p := ⟨w.heap.size + 1, 0, none⟩) (by show w.heap.size + 1 < _; rw [HSZ.out]; omega)).trans kk.2.2.2.2.1
        have g1 : w6.frozen? ⟨w.heap.size + 1, 1, none⟩ = false := (hB.frozen (p := ⟨w.heap.size + 1, 1, none⟩) (by show w.heap.size + 1 < _; rw [HSZ.out]; omega)).trans kk.2.2.2.2.2.1
        have g2 : w6.frozen? ⟨w.heap.size + 1, 2, none⟩ = false := (hB.frozen (p := ⟨w.heap.size + 1, 2, none⟩) (by show w.heap.size + 1 < _; rw [HSZ.out]; omega)).trans kk.2.2.2.2.2.2.1
        have g3 : w6.frozen? ⟨w.heap.size + 1 + 1, 0, none⟩ = false := (hB.frozen (p := ⟨w.heap.size + 1 + 1, 0, none⟩) (by show w.heap.size + 1 + 1 < _; rw [HSZ.out]; omega)).trans kk.2.2.2.2.2.2.2
        clear kk
        unfold errV
        refine leaves_cons (f := 43) (args := #[.pointer (some ⟨w.heap.size + 1, 0, none⟩), .pointer (some ⟨w.heap.size + 1 + 1, 0, none⟩)]) (by simp) (by simp [go_sem]) ?_
        refine (catch_read (w.heap.size + 1) (w.heap.size + 1 + 1) _ _ _ _ _ _ _ _ (by omega) b0 b1 b2 b3 g0 g1 g2 g3).mono ?_
        rintro e u' w'' ⟨rfl, rfl, rfl⟩
        have HNO := Lib.hid (show R = none from HR.out.trans (by rw [HN6.out]; rfl))
        have HBB := Lib.hid (HB.out.trans (hB.mono (by rw [HSZ.out]; omega)))
        rw [HNO.out]
        simp [Leaves, settle, results, Tryz.results23, go_sem, b0, b1, b2, b3]
        exact ⟨rfl, (((HBB.out.setCell (by show w.heap.size ≤ w.heap.size + 1; omega) _).setCell (by show w.heap.size ≤ w.heap.size + 1; omega) _).setCell (by show w.heap.size ≤ w.heap.size + 1; omega) _).setCell (by show w.heap.size ≤ w.heap.size + 1 + 1; omega) _⟩
    · have hjz : j = L.size := by rw [HLS.out]; omega
      have HALL := Lib.hid (show rAll l ⟨S, [], []⟩ = some x by have h := HALL.out; rw [hjz, ← blen, HLL.out, List.take_length] at h; exact h)
      have hge : ¬ (j : Int) < 3 := by omega
      have HDN := Lib.hid (show R = rDone x by rw [HR.out, HALL.out]; rfl)
      obtain ⟨tv, nv, hD⟩ := HI.out
      have c0 := hD.c0
      have c1 := hD.c1
      have c2 := hD.c2
      rw [HSZ.out] at c0 c1 c2
      have HD := Lib.hid hD
      have HWB := Lib.hid hD.below
      clear hjz hD
      by_cases hS : x.S = []
      · have hse : ((⟨x.S.toArray⟩ : ByteArray).toList == ([] : List UInt8)) = true := by rw [hS, toList_eq]; rfl
        have HDN := Lib.hid (show R = some (x.T, x.N) by rw [HDN.out]; exact if_pos hS)
        generalize (⟨x.S.toArray⟩ : ByteArray) = xs at c0 hse
        clear hS
        go_wp2_with fail
        refine (demand_ok _).mono ?_; rintro e w7 ⟨rfl, rfl⟩
        have kk := HK.out
        have b0 : wr.cell? ⟨w.heap.size + 1, 0, none⟩ = some (.int .u8 0) := (HWB.out.cell (p := ⟨w.heap.size + 1, 0, none⟩) (by show w.heap.size + 1 < _; rw [HSZ.out]; omega)).trans kk.1
        have b1 : wr.cell? ⟨w.heap.size + 1, 1, none⟩ = some (.slice none 0 0) := (HWB.out.cell (p := ⟨w.heap.size + 1, 1, none⟩) (by show w.heap.size + 1 < _; rw [HSZ.out]; omega)).trans kk.2.1
        have b2 : wr.cell? ⟨w.heap.size + 1, 2, none⟩ = some (.slice none 0 0) := (HWB.out.cell (p := ⟨w.heap.size + 1, 2, none⟩) (by show w.heap.size + 1 < _; rw [HSZ.out]; omega)).trans kk.2.2.1
        have b3 : wr.cell? ⟨w.heap.size + 1 + 1, 0, none⟩ = some (.int .i64 0) := (HWB.out.cell (p := ⟨w.heap.size + 1 + 1, 0, none⟩) (by show w.heap.size + 1 + 1 < _; rw [HSZ.out]; omega)).trans kk.2.2.2.1
        have g0 : wr.frozen? ⟨w.heap.size + 1, 0, none⟩ = false := (HWB.out.frozen (p := ⟨w.heap.size + 1, 0, none⟩) (by show w.heap.size + 1 < _; rw [HSZ.out]; omega)).trans kk.2.2.2.2.1
        have g1 : wr.frozen? ⟨w.heap.size + 1, 1, none⟩ = false := (HWB.out.frozen (p := ⟨w.heap.size + 1, 1, none⟩) (by show w.heap.size + 1 < _; rw [HSZ.out]; omega)).trans kk.2.2.2.2.2.1
        have g2 : wr.frozen? ⟨w.heap.size + 1, 2, none⟩ = false := (HWB.out.frozen (p := ⟨w.heap.size + 1, 2, none⟩) (by show w.heap.size + 1 < _; rw [HSZ.out]; omega)).trans kk.2.2.2.2.2.2.1
        have g3 : wr.frozen? ⟨w.heap.size + 1 + 1, 0, none⟩ = false := (HWB.out.frozen (p := ⟨w.heap.size + 1 + 1, 0, none⟩) (by show w.heap.size + 1 + 1 < _; rw [HSZ.out]; omega)).trans kk.2.2.2.2.2.2.2
        clear kk
        have kf := F0.out wr HWB.out
        obtain ⟨ta, tc, rfl⟩ := ownsRow_form HD.out.texts
        obtain ⟨na, nc, rfl⟩ := ownsRow_form HD.out.nums
        have k0 := kf.1
        have HTX := Lib.hid HD.out.texts
        have HNM := Lib.hid HD.out.nums
        have HBB := Lib.hid (HB.out.trans (HWB.out.mono (by rw [HSZ.out]; omega)))
        rw [HSZ.out] at HTX HNM
        clear kf
        go_upto_region 13 with (fail)
        go_region
        all_goals
          go_wp2_with fail
          refine leaves_cons (f := 43) (args := #[.pointer (some ⟨w.heap.size + 1, 0, none⟩), .pointer (some ⟨w.heap.size + 1 + 1, 0, none⟩)]) (by simp) (by simp [go_sem]) ?_
          refine (catch_idle_read _ _ _).mono ?_
          rintro e u' w'' ⟨rfl, rfl, rfl⟩
          rw [HDN.out]
          simp [Leaves, settle, results, Tryz.results23, go_sem, b0, b1, b2, b3]
          refine ⟨_, _, by rw [HCI.out], own_base (own_four HTX.out _ _ (by omega) (by omega) _ _ _ _) (by omega), own_base (own_four HNM.out _ _ (by omega) (by omega) _ _ _ _) (by omega), ((((HBB.out.setCell (by show w.heap.size ≤ w.heap.size + 1; omega) _).setCell (by show w.heap.size ≤ w.heap.size + 1; omega) _).setCell (by show w.heap.size ≤ w.heap.size + 1; omega) _).setCell (by show w.heap.size ≤ w.heap.size + 1 + 1; omega) _).drew⟩
      · have hse : ((⟨x.S.toArray⟩ : ByteArray).toList == ([] : List UInt8)) = false := by
          rw [toList_eq, beq_eq_false_iff_ne]; intro e
          exact hS e
        have HDN := Lib.hid (show R = none by rw [HDN.out]; exact if_neg hS)
        generalize (⟨x.S.toArray⟩ : ByteArray) = xs at c0 hse
        clear hS
        go_wp2_with fail
        refine (demand_no _).mono ?_; rintro e w7 ⟨rfl, rfl⟩
        go_wp2_with fail
        have kk := HK.out
        have b0 : wr.cell? ⟨w.heap.size + 1, 0, none⟩ = some (.int .u8 0) := (HWB.out.cell (p := ⟨w.heap.size + 1, 0, none⟩) (by show w.heap.size + 1 < _; rw [HSZ.out]; omega)).trans kk.1
        have b1 : wr.cell? ⟨w.heap.size + 1, 1, none⟩ = some (.slice none 0 0) := (HWB.out.cell (p := ⟨w.heap.size + 1, 1, none⟩) (by show w.heap.size + 1 < _; rw [HSZ.out]; omega)).trans kk.2.1
        have b2 : wr.cell? ⟨w.heap.size + 1, 2, none⟩ = some (.slice none 0 0) := (HWB.out.cell (p := ⟨w.heap.size + 1, 2, none⟩) (by show w.heap.size + 1 < _; rw [HSZ.out]; omega)).trans kk.2.2.1
        have b3 : wr.cell? ⟨w.heap.size + 1 + 1, 0, none⟩ = some (.int .i64 0) := (HWB.out.cell (p := ⟨w.heap.size + 1 + 1, 0, none⟩) (by show w.heap.size + 1 + 1 < _; rw [HSZ.out]; omega)).trans kk.2.2.2.1
        have g0 : wr.frozen? ⟨w.heap.size + 1, 0, none⟩ = false := (HWB.out.frozen (p := ⟨w.heap.size + 1, 0, none⟩) (by show w.heap.size + 1 < _; rw [HSZ.out]; omega)).trans kk.2.2.2.2.1
        have g1 : wr.frozen? ⟨w.heap.size + 1, 1, none⟩ = false := (HWB.out.frozen (p := ⟨w.heap.size + 1, 1, none⟩) (by show w.heap.size + 1 < _; rw [HSZ.out]; omega)).trans kk.2.2.2.2.2.1
        have g2 : wr.frozen? ⟨w.heap.size + 1, 2, none⟩ = false := (HWB.out.frozen (p := ⟨w.heap.size + 1, 2, none⟩) (by show w.heap.size + 1 < _; rw [HSZ.out]; omega)).trans kk.2.2.2.2.2.2.1
        have g3 : wr.frozen? ⟨w.heap.size + 1 + 1, 0, none⟩ = false := (HWB.out.frozen (p := ⟨w.heap.size + 1 + 1, 0, none⟩) (by show w.heap.size + 1 + 1 < _; rw [HSZ.out]; omega)).trans kk.2.2.2.2.2.2.2
        clear kk
        unfold errV
        refine leaves_cons (f := 43) (args := #[.pointer (some ⟨w.heap.size + 1, 0, none⟩), .pointer (some ⟨w.heap.size + 1 + 1, 0, none⟩)]) (by simp) (by simp [go_sem]) ?_
        refine (catch_read (w.heap.size + 1) (w.heap.size + 1 + 1) _ _ _ _ _ _ _ _ (by omega) b0 b1 b2 b3 g0 g1 g2 g3).mono ?_
        rintro e u' w'' ⟨rfl, rfl, rfl⟩
        have HNO := Lib.hid (show R = none from HDN.out)
        have HBB := Lib.hid (HB.out.trans (HWB.out.mono (by rw [HSZ.out]; omega)))
        rw [HNO.out]
        simp [Leaves, settle, results, Tryz.results23, go_sem, b0, b1, b2, b3]
        exact ⟨rfl, (((HBB.out.setCell (by show w.heap.size ≤ w.heap.size + 1; omega) _).setCell (by show w.heap.size ≤ w.heap.size + 1; omega) _).setCell (by show w.heap.size ≤ w.heap.size + 1; omega) _).setCell (by show w.heap.size ≤ w.heap.size + 1 + 1; omega) _⟩
end Go.Proofs.YtpijolcklmdjbaaGreatDoor

namespace Go.Proofs.YtpijolcklmdjbaaGreatDoor
open Go.RowKit Go.Lib Go.WideShapes

theorem read_any (w : World) (back : Bool) (c : UInt8) (S : Bs) (hl : S.length ≤ 800000) :
    Calls Tryz.prog 23 #[.bool back, .agg #[.int .u8 (c.toNat : Nat), .string ⟨S.toArray⟩]] w (MsgOut w c 2 (readL back c S)) := by
  cases hlay : lay back c with
  | none => exact read_none w back c S hl hlay
  | some l =>
    cases back with
    | true => exact read_back w c S hl l hlay
    | false =>
      by_cases hc : c = 0
      · cases hcan : isCancel S with
        | true => exact read_cancel w c S hl hc hcan
        | false => exact read_bare w c S hl l hlay hc hcan
      · exact read_plain w c S hl l hlay hc
end Go.Proofs.YtpijolcklmdjbaaGreatDoor

namespace Go.Proofs.YtpijolcklmdjbaaGreatDoor
open Go.RowKit Go.Lib Go.WideShapes

/-- What Decode answers for a body. -/
def readD (back : Bool) (c : UInt8) (S : Bs) : Option (List Bs × List Int) := if 10000 < S.length then none else readL back c S

theorem own_three {w : World} {base n : Nat} {e : TypeId} {v : Value} {xs : List Value} (h : w.ownsRow base e 1 v n xs) (b : Nat) (hb : b < base) (v0 v1 v2 : Value) : (((w.setCell ⟨b, 0, none⟩ v0).setCell ⟨b, 1, none⟩ v1).setCell ⟨b, 2, none⟩ v2).ownsRow base e 1 v n xs :=
  ownsRow_setCell_below (ownsRow_setCell_below (ownsRow_setCell_below h (a := ⟨b, 0, none⟩) hb v0) (a := ⟨b, 1, none⟩) hb v1) (a := ⟨b, 2, none⟩) hb v2

set_option maxRecDepth 100000 in
set_option maxHeartbeats 8000000 in
theorem decode_any (w : World) (back : Bool) (c : UInt8) (S : Bs) (hl : S.length ≤ 800000) :
    Calls Tryz.prog 12 #[.bool back, .agg #[.int .u8 (c.toNat : Nat), .string ⟨S.toArray⟩]] w (MsgOut w c 2 (readD back c S)) := by
  obtain ⟨ci, hci⟩ : ∃ ci : Int, ci = (c.toNat : Nat) := ⟨_, rfl⟩
  obtain ⟨sb, hsb⟩ : ∃ sb : ByteArray, sb = ⟨S.toArray⟩ := ⟨_, rfl⟩
  have hsz : sb.size = S.length := by rw [hsb, bsize]
  obtain ⟨W0, hW0⟩ : ∃ x, x = (w.alloc (.cells #[.int .u8 ci, .string sb] 33)).alloc (.cells #[.int .u8 0, .slice none 0 0, .slice none 0 0] 39) := ⟨_, rfl⟩
  have hz : W0.heap.size = w.heap.size + 1 + 1 := by rw [hW0]; simp
  have HB := Lib.hid (show Below w.heap.size w W0 by rw [hW0]; exact ((Below.refl _ _).alloc (Nat.le_refl _) _).alloc (by simp) _)
  have HK := Lib.hid (show ∀ W, Below W0.heap.size W0 W → W.cell? ⟨w.heap.size + 1, 0, none⟩ = some (.int .u8 0) ∧ W.cell? ⟨w.heap.size + 1, 1, none⟩ = some (.slice none 0 0) ∧ W.cell? ⟨w.heap.size + 1, 2, none⟩ = some (.slice none 0 0) ∧ W.frozen? ⟨w.heap.size + 1, 0, none⟩ = false ∧ W.frozen? ⟨w.heap.size + 1, 1, none⟩ = false ∧ W.frozen? ⟨w.heap.size + 1, 2, none⟩ = false from by
    intro W hW
    have k : ∀ i, W.cell? ⟨w.heap.size + 1, i, none⟩ = W0.cell? ⟨w.heap.size + 1, i, none⟩ := fun i => hW.cell (p := ⟨w.heap.size + 1, i, none⟩) (by show w.heap.size + 1 < _; omega)
    have f : ∀ i, W.frozen? ⟨w.heap.size + 1, i, none⟩ = W0.frozen? ⟨w.heap.size + 1, i, none⟩ := fun i => hW.frozen (p := ⟨w.heap.size + 1, i, none⟩) (by show w.heap.size + 1 < _; omega)
    refine ⟨(k 0).trans ?_, (k 1).trans ?_, (k 2).trans ?_, (f 0).trans ?_, (f 1).trans ?_, (f 2).trans ?_⟩ <;> (rw [hW0]; simp [go_sem]))
  have HE := Lib.hid hW0
  have HZ := Lib.hid hz
  have HCI := Lib.hid hci
  have HRD := Lib.hid (read_any W0 back c S hl)
  rw [← hci, ← hsb] at HRD
  rw [← hci, ← hsb]
  by_cases hlong : 10000 < S.length
  · have hl' : (10000 : Int) < sb.size := by omega
    have HR := Lib.hid (show readD back c S = none from if_pos hlong)
    rw [HR.out]
    have b := HK.out W0 (Below.refl _ _)
    clear hW0 hz hsb hsz hci hlong hl
    go_enter Tryz.func12, Tryz.ntmps12
    go_wp2_with fail
    simp [bodyPost, results, Tryz.results12, go_sem]
    refine ⟨rfl, ?_⟩
    first | exact ((Below.refl _ _).alloc (Nat.le_refl _) _).alloc (by simp) _ | exact ((((((Below.refl _ _).alloc (Nat.le_refl _) _).alloc (by simp) _).setCell (by simp) _).setCell (by simp) _).setCell (by simp) _)
  · have hl' : ¬ (10000 : Int) < sb.size := by omega
    have HR := Lib.hid (show readD back c S = readL back c S from if_neg hlong)
    rw [HR.out]
    generalize readL back c S = R at HRD ⊢
    clear hW0 hz hsb hsz hci hlong hl
    go_enter Tryz.func12, Tryz.ntmps12
    go_wp2_with fail
    rw [← HE.out]
    cases R with
    | none =>
      refine HRD.out.mono ?_; rintro e w1 ⟨rfl, hb⟩
      obtain ⟨b0, b1, b2, g0, g1, g2⟩ := HK.out w1 hb
      have HB1 := Lib.hid (HB.out.trans (hb.mono (by rw [HZ.out]; omega)))
      clear hb
      go_wp2_with fail
      simp [bodyPost, results, Tryz.results12, go_sem, b0, b1, b2]
      exact ⟨rfl, ((HB1.out.setCell (by show w.heap.size ≤ w.heap.size + 1; omega) _).setCell (by show w.heap.size ≤ w.heap.size + 1; omega) _).setCell (by show w.heap.size ≤ w.heap.size + 1; omega) _⟩
    | some p =>
      obtain ⟨T, N⟩ := p
      refine HRD.out.mono ?_; rintro e w1 ⟨tv, nv, rfl, hT, hN, hb⟩
      obtain ⟨b0, b1, b2, g0, g1, g2⟩ := HK.out w1 hb
      have HB1 := Lib.hid (HB.out.trans (hb.mono (by rw [HZ.out]; omega)))
      rw [HZ.out] at hT hN
      have HT := Lib.hid hT; have HN := Lib.hid hN
      obtain ⟨ta, tc, rfl⟩ := ownsRow_form hT
      obtain ⟨na, nc, rfl⟩ := ownsRow_form hN
      rw [← HCI.out]
      clear hb hT hN
      go_wp2_with fail
      simp [bodyPost, results, Tryz.results12, go_sem, b0, b1, b2]
      exact ⟨_, _, by rw [HCI.out], own_base (own_three HT.out _ (by omega) _ _ _) (by omega), own_base (own_three HN.out _ (by omega) _ _ _) (by omega), ((HB1.out.setCell (by show w.heap.size ≤ w.heap.size + 1; omega) _).setCell (by show w.heap.size ≤ w.heap.size + 1; omega) _).setCell (by show w.heap.size ≤ w.heap.size + 1; omega) _⟩
end Go.Proofs.YtpijolcklmdjbaaGreatDoor

namespace Go.Proofs.YtpijolcklmdjbaaGreatDoor
open Go.RowKit Go.Lib Go.WideShapes

def qS (s : ByteArray) : ByteArray := packB 81 ⟨(bytes s ++ [0]).toArray⟩
/-- What a query is: its bytes, and what is wrong. -/
def qV (s : ByteArray) : ByteArray × Int := if (0 : UInt8) ∈ bytes s then ({ data := #[] }, 1) else if 9999 < s.size then ({ data := #[] }, 3) else (qS s, 0)

set_option maxRecDepth 100000 in
set_option maxHeartbeats 4000000 in
theorem query_any (w : World) (s : ByteArray) (hs : s.size ≤ 100000) :
    Calls Tryz.prog 10 #[.string s] w fun e w' => e = .returned (.tuple #[.string (qV s).1, .int .i64 (qV s).2]) ∧ Below w.heap.size w w' := by
  have hT : TextsIn (w.alloc (.cells #[.string s] 9)) (.slice (some ⟨w.heap.size, 0, none⟩) 1 1) [bytes s] := by
    refine ⟨_, 1, 1, rfl, rfl, Nat.le_refl _, by omega, .inr ⟨_, 0, rfl, by rw [World.size_alloc]; exact Nat.lt_succ_self _, ?_⟩⟩
    intro i t ht
    match i, ht with
    | 0, ht => obtain rfl := Option.some.inj ht; simp [go_sem, bytes]
  have hl : (bytes s).length ≤ 100000 := by rw [blen]; exact hs
  have hr : room ⟨[bytes s], [], []⟩ ≤ 800000 := by
    unfold room
    simp only [List.map_cons, List.map_nil, List.sum_cons, List.sum_nil, List.length_nil]
    omega
  have h := text_of (w.alloc (.cells #[.string s] 9)) false 81 [bytes s] _ hT hr
  rw [written_one] at h
  have HT := Lib.hid (show Calls Tryz.prog 21 #[.bool false, .int .u8 81, .slice (some ⟨w.heap.size, 0, none⟩) 1 1] (w.alloc (.cells #[.string s] 9)) fun e w' => e = .returned (.tuple #[.string (qV s).1, .int .i64 (qV s).2]) ∧ Below w.heap.size w w' from h.mono (by
    rintro e w' ⟨rfl, hb⟩
    refine ⟨?_, ((Below.refl _ _).alloc (Nat.le_refl _) _).trans (hb.mono (by rw [World.size_alloc]; omega))⟩
    unfold qV textV
    by_cases h0 : (0 : UInt8) ∈ bytes s
    · rw [if_pos h0, if_pos h0]; rfl
    · rw [if_neg h0, if_neg h0]
      by_cases hl : 9999 < s.size
      · rw [if_pos hl]
        have hE : encE (some (bytes s ++ [0])) = 3 := if_pos (by rw [List.length_append, blen]; simp only [List.length_cons, List.length_nil]; omega)
        rw [hE]; rfl
      · rw [if_neg hl]
        have hE : encE (some (bytes s ++ [0])) = 0 := if_neg (by rw [List.length_append, blen]; simp only [List.length_cons, List.length_nil]; omega)
        rw [hE]; rfl))
  clear h hT hr hl
  go_enter Tryz.func10, Tryz.ntmps10
  go_wp2_with fail
  refine HT.out.mono ?_; rintro e w1 ⟨rfl, hb⟩
  have HB := Lib.hid hb
  clear hb
  go_wp2_with fail
  go_ret2
  exact ⟨rfl, HB.out⟩

theorem query_good {s : ByteArray} (h0 : (0 : UInt8) ∉ bytes s) (hl : s.size ≤ 9999) : qV s = (qS s, 0) := by
  unfold qV; rw [if_neg h0, if_neg (by omega)]
theorem query_read {s : Bs} (h0 : (0 : UInt8) ∉ s) : readL false 81 (s ++ [0]) = some ([s], []) := read_of_written (by rw [written_one, if_neg h0])
theorem qS_list (s : ByteArray) : bytes (qS s) = 81 :: (be4 ((bytes s ++ [0]).length + 4) ++ (bytes s ++ [0])) := by
  show packL 81 (bytes s ++ [0]) = _
  unfold packL
  rw [if_neg (by decide)]; rfl
end Go.Proofs.YtpijolcklmdjbaaGreatDoor

namespace Go.Proofs.YtpijolcklmdjbaaGreatDoor
open Go.RowKit Go.Lib Go.WideShapes

theorem TokOff.first {w : World} {p : Option Addr} {t : Tok} {r : List Tok} (h : TokOff w p (t :: r)) : ∃ g off, p = some ⟨g, off, none⟩ ∧ g < w.heap.size ∧ TokOff w (some ⟨g, off, none⟩) (t :: r) := by
  have hA' := h
  rcases h with h | ⟨g, off, hp, hg, _⟩
  · cases h
  · exact ⟨g, off, hp, hg, by rw [← hp]; exact hA'⟩
theorem kind_eq (t : Tok) (k : UInt8) : (t.kind == k) = decide (t.kind.toNat = k.toNat) := by rw [Bool.eq_iff_iff]; simp [← UInt8.toNat_inj]
theorem str_list (t : Bs) : (⟨t.toArray⟩ : ByteArray).toList = t := by rw [Lib.toList_data]

set_option maxRecDepth 100000 in
set_option maxHeartbeats 2000000 in
theorem pbegins_any (p : Option Addr) (T : List Tok) (n c : Nat) (W : ByteArray) (w : World) (hT : T.length = n) (hn : n ≤ 100000) (hA : TokOff w p T) :
    Calls Tryz.prog 99 #[.slice p n c, .string W] w fun e w' => e = .returned (.bool (beginsW T (bytes W))) ∧ ∃ k, w' = w.drewN k := by
  cases T with
  | nil =>
    obtain rfl : 0 = n := hT
    clear hA
    go_enter Tryz.func99, Tryz.ntmps99
    go_wp2_with fail
    go_ret
    exact ⟨rfl, 0, rfl⟩
  | cons t r =>
    obtain ⟨g, off, rfl, hg, hc⟩ := hA.first
    obtain ⟨_, a0, a1, _, _⟩ := hc.get (i := 0) rfl
    simp only [Nat.zero_mul, Nat.add_zero] at a0 a1
    have hn1 : (1 : Int) ≤ n := by rw [← hT, List.length_cons]; omega
    have e : beginsW (t :: r) (bytes W) = (decide (t.kind.toNat = 119) && (t.text == bytes W)) := by show (t.kind == 119 && t.text == bytes W) = _; rw [kind_eq]; rfl
    rw [e]
    have hx : (⟨t.text.toArray⟩ : ByteArray).toList = t.text := str_list _
    have hw : W.toList = bytes W := Lib.toList_data W
    clear hA hc hT e
    generalize (⟨t.text.toArray⟩ : ByteArray) = XT at a1 hx
    generalize t.kind.toNat = kk at a0
    by_cases h1 : kk = 119
    · have hb : ((kk : Int) == 119) = true := by simp; omega
      rw [decide_eq_true h1]
      clear h1
      cases h2 : (t.text == bytes W) with
      | true =>
        have hb2 : (XT.toList == W.toList) = true := by rw [hx, hw]; exact h2
        clear hx hw h2
        go_enter Tryz.func99, Tryz.ntmps99
        go_wp2_with fail
        go_ret
        exact ⟨rfl, 0, rfl⟩
      | false =>
        have hb2 : (XT.toList == W.toList) = false := by rw [hx, hw]; exact h2
        clear hx hw h2
        go_enter Tryz.func99, Tryz.ntmps99
        go_wp2_with fail
        go_ret
        exact ⟨rfl, 0, rfl⟩
    · have hb : ((kk : Int) == 119) = false := by simp; omega
      rw [decide_eq_false h1]
      clear h1 hx hw
      go_enter Tryz.func99, Tryz.ntmps99
      go_wp2_with fail
      go_ret
      exact ⟨rfl, 0, rfl⟩

theorem begins_below (p : Option Addr) (T : List Tok) (n c : Nat) (W : ByteArray) (w : World) (hT : T.length = n) (hn : n ≤ 100000) (hA : TokOff w p T) :
    Calls Tryz.prog 99 #[.slice p n c, .string W] w fun e w' => e = .returned (.bool (beginsW T (bytes W))) ∧ Below w.heap.size w w' :=
  (pbegins_any p T n c W w hT hn hA).mono fun _ _ ⟨h1, k, h2⟩ => ⟨h1, by rw [h2]; exact below_drewN (Below.refl _ _) k⟩

set_option maxRecDepth 100000 in
set_option maxHeartbeats 2000000 in
theorem alone_any (p : Option Addr) (T : List Tok) (n c : Nat) (W : ByteArray) (w : World) (hT : T.length = n) (hn : n ≤ 100000) (hA : TokOff w p T) :
    Calls Tryz.prog 64 #[.slice p n c, .string W] w fun e w' => e = .returned (.bool (aloneW T (bytes W))) ∧ Below w.heap.size w w' := by
  have e : aloneW T (bytes W) = (decide (n = 1) && beginsW T (bytes W)) := by unfold aloneW; rw [hT]; congr 1
  rw [e]
  have HB := Lib.hid (begins_below p T n c W w hT hn hA)
  generalize beginsW T (bytes W) = b at HB
  clear e hT hA
  by_cases h1 : n = 1
  · subst h1
    cases b with
    | true =>
      go_enter Tryz.func64, Tryz.ntmps64
      go_wp2_with fail
      refine HB.out.mono ?_; rintro e w1 ⟨rfl, hb1⟩
      have HB1 := Lib.hid hb1
      clear hb1
      go_wp2_with fail
      go_ret
      exact ⟨rfl, HB1.out⟩
    | false =>
      go_enter Tryz.func64, Tryz.ntmps64
      go_wp2_with fail
      refine HB.out.mono ?_; rintro e w1 ⟨rfl, hb1⟩
      have HB1 := Lib.hid hb1
      clear hb1
      go_wp2_with fail
      go_ret
      exact ⟨rfl, HB1.out⟩
  · have hb : ((n : Int) == 1) = false := by simp; omega
    rw [decide_eq_false h1]
    clear h1
    go_enter Tryz.func64, Tryz.ntmps64
    go_wp2_with fail
    go_ret
    exact ⟨rfl, Below.refl _ _⟩
end Go.Proofs.YtpijolcklmdjbaaGreatDoor
