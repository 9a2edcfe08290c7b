/- The message of a body, read: the case none. -/
import Derived.Test.YtfdffiphlpeegaaDoorDRead0
namespace Go.Proofs.YtfdffiphlpeegaaDoor
open Go.RowKit Go.Lib Go.WideShapes

set_option maxRecDepth 100000 in
set_option maxHeartbeats 16000000 in
theorem read_none (w : World) (back : Bool) (c : UInt8) (S : Bs) (hl : S.length ≤ 800000) (hlay : lay back c = none) :
    Calls Tryd.prog 16 #[.bool back, .agg #[.int .u8 (c.toNat : Nat), .string ⟨S.toArray⟩]] w (MsgOut w c 2 (readL back c S)) := by
  have hmf : ∀ (fn : Fn) (first cap : Array Value) (w : World), (Instr.makeFunc fn first cap).run Tryd.prog w = .ok (.func fn first cap) w := fun _ _ _ _ => rfl
  obtain ⟨ci, hci⟩ : ∃ ci : Int, ci = (c.toNat : Nat) := ⟨_, rfl⟩
  obtain ⟨sb, hsb⟩ : ∃ sb : ByteArray, sb = ⟨S.toArray⟩ := ⟨_, rfl⟩
  obtain ⟨R, hR⟩ : ∃ R, R = readL back c S := ⟨_, rfl⟩
  rw [← hR, ← hci, ← hsb]
  have HCI := Lib.hid hci; have HR := Lib.hid hR
  obtain ⟨W0, hW0⟩ : ∃ x, x = ((w.alloc (.cells #[.int .u8 ci, .string sb] 23)).alloc (.cells #[.int .u8 0, .slice none 0 0, .slice none 0 0] 28)).alloc (.cells #[.int .i64 0] 29) := ⟨_, rfl⟩
  have hsz : W0.heap.size = w.heap.size + 1 + 1 + 1 := by rw [hW0]; simp
  have HB := Lib.hid (show Below w.heap.size w W0 by rw [hW0]; exact (((Below.refl _ _).alloc (Nat.le_refl _) _).alloc (by simp) _).alloc (by simp; omega) _)
  have HK := Lib.hid (show W0.cell? ⟨w.heap.size + 1, 0, none⟩ = some (.int .u8 0) ∧ W0.cell? ⟨w.heap.size + 1, 1, none⟩ = some (.slice none 0 0) ∧ W0.cell? ⟨w.heap.size + 1, 2, none⟩ = some (.slice none 0 0) ∧ W0.cell? ⟨w.heap.size + 1 + 1, 0, none⟩ = some (.int .i64 0) ∧ W0.frozen? ⟨w.heap.size + 1, 0, none⟩ = false ∧ W0.frozen? ⟨w.heap.size + 1, 1, none⟩ = false ∧ W0.frozen? ⟨w.heap.size + 1, 2, none⟩ = false ∧ W0.frozen? ⟨w.heap.size + 1 + 1, 0, none⟩ = false by rw [hW0]; simp [go_sem])
  have F0 := Lib.hid (show ∀ W, Below W0.heap.size W0 W → W.cell? ⟨w.heap.size, 0, none⟩ = some (.int .u8 ci) ∧ W.cell? ⟨w.heap.size, 1, none⟩ = some (.string sb) from by
    intro W hW
    have k : ∀ i, W.cell? ⟨w.heap.size, i, none⟩ = W0.cell? ⟨w.heap.size, i, none⟩ := fun i => hW.cell (p := ⟨w.heap.size, i, none⟩) (by show w.heap.size < _; omega)
    exact ⟨(k 0).trans (by rw [hW0]; simp [go_sem]), (k 1).trans (by rw [hW0]; simp [go_sem])⟩)
  have HNEW := Lib.hid (isd_new W0 S)
  have HRR := Lib.hid (show droom ⟨S, [], []⟩ ≤ 850000 by show S.length + 0 ≤ _; omega)
  have HE := Lib.hid hW0
  have HSZ := Lib.hid hsz
  have HIC := Lib.hid (fun W => iscancel_any W S hl)
  rw [← hsb] at HNEW HIC
  have HLY := Lib.hid (fun W => lay_any W back c)
  rw [← hci] at HLY
  clear hW0 hsz hR hsb hl
  rw [hlay] at HLY
  have HNO := Lib.hid (HR.out.trans (readL_none hlay))
  clear hlay hci
  go_enter_defers Tryd.func16, Tryd.ntmps16
  go_wp2_with fail
  refine (HLY.out _).mono ?_; rintro e w1 ⟨rfl, rfl⟩
  unfold layV
  go_wp2_with fail
  refine (demand_no _).mono ?_; rintro e w2 ⟨rfl, rfl⟩
  go_wp2_with fail
  rw [← HE.out]
  have kk := HK.out
  have b0 : W0.cell? ⟨w.heap.size + 1, 0, none⟩ = some (.int .u8 0) := ((Below.refl W0.heap.size W0).cell (p := ⟨w.heap.size + 1, 0, none⟩) (by show w.heap.size + 1 < _; rw [HSZ.out]; omega)).trans kk.1
  have b1 : W0.cell? ⟨w.heap.size + 1, 1, none⟩ = some (.slice none 0 0) := ((Below.refl W0.heap.size W0).cell (p := ⟨w.heap.size + 1, 1, none⟩) (by show w.heap.size + 1 < _; rw [HSZ.out]; omega)).trans kk.2.1
  have b2 : W0.cell? ⟨w.heap.size + 1, 2, none⟩ = some (.slice none 0 0) := ((Below.refl W0.heap.size W0).cell (p := ⟨w.heap.size + 1, 2, none⟩) (by show w.heap.size + 1 < _; rw [HSZ.out]; omega)).trans kk.2.2.1
  have b3 : W0.cell? ⟨w.heap.size + 1 + 1, 0, none⟩ = some (.int .i64 0) := ((Below.refl W0.heap.size W0).cell (p := ⟨w.heap.size + 1 + 1, 0, none⟩) (by show w.heap.size + 1 + 1 < _; rw [HSZ.out]; omega)).trans kk.2.2.2.1
  have g0 : W0.frozen? ⟨w.heap.size + 1, 0, none⟩ = false := ((Below.refl W0.heap.size W0).frozen (p := ⟨w.heap.size + 1, 0, none⟩) (by show w.heap.size + 1 < _; rw [HSZ.out]; omega)).trans kk.2.2.2.2.1
  have g1 : W0.frozen? ⟨w.heap.size + 1, 1, none⟩ = false := ((Below.refl W0.heap.size W0).frozen (p := ⟨w.heap.size + 1, 1, none⟩) (by show w.heap.size + 1 < _; rw [HSZ.out]; omega)).trans kk.2.2.2.2.2.1
  have g2 : W0.frozen? ⟨w.heap.size + 1, 2, none⟩ = false := ((Below.refl W0.heap.size W0).frozen (p := ⟨w.heap.size + 1, 2, none⟩) (by show w.heap.size + 1 < _; rw [HSZ.out]; omega)).trans kk.2.2.2.2.2.2.1
  have g3 : W0.frozen? ⟨w.heap.size + 1 + 1, 0, none⟩ = false := ((Below.refl W0.heap.size W0).frozen (p := ⟨w.heap.size + 1 + 1, 0, none⟩) (by show w.heap.size + 1 + 1 < _; rw [HSZ.out]; omega)).trans kk.2.2.2.2.2.2.2
  clear kk
  unfold errV
  refine leaves_cons (f := 21) (args := #[.pointer (some ⟨w.heap.size + 1, 0, none⟩), .pointer (some ⟨w.heap.size + 1 + 1, 0, none⟩)]) (by simp) (by simp [go_sem]) ?_
  refine (catch_read (w.heap.size + 1) (w.heap.size + 1 + 1) _ _ _ _ _ _ _ _ (by omega) b0 b1 b2 b3 g0 g1 g2 g3).mono ?_
  rintro e u' w'' ⟨rfl, rfl, rfl⟩
  have HNO := Lib.hid (show R = none from HNO.out)
  have HBB := Lib.hid (HB.out.trans ((Below.refl W0.heap.size W0).mono (by rw [HSZ.out]; omega)))
  rw [HNO.out]
  simp [Leaves, settle, results, Tryd.results16, go_sem, b0, b1, b2, b3]
  exact ⟨rfl, (((HBB.out.setCell (by show w.heap.size ≤ w.heap.size + 1; omega) _).setCell (by show w.heap.size ≤ w.heap.size + 1; omega) _).setCell (by show w.heap.size ≤ w.heap.size + 1; omega) _).setCell (by show w.heap.size ≤ w.heap.size + 1 + 1; omega) _⟩
end Go.Proofs.YtfdffiphlpeegaaDoor
