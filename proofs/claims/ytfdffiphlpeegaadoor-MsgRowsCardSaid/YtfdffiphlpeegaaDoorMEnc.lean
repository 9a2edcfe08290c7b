/- A message's frame. -/
import Derived.Test.YtfdffiphlpeegaaDoorMWrite
namespace Go.Proofs.YtfdffiphlpeegaaDoor
open Go.RowKit Go.Lib Go.WideShapes

/-- What Encode answers for what is written: the frame's body, or why there is none. -/
def encE (r : Option Bs) : Int := match r with
  | none => 1
  | some B => if 10000 < B.length then 3 else 0
def encV (c : UInt8) (r : Option Bs) : Value := .tuple #[if encE r = 0 then .agg #[.int .u8 (c.toNat : Nat), .string ⟨(r.getD []).toArray⟩] else .agg #[.int .u8 0, .string { data := #[] }], .int .i64 (encE r)]

set_option maxRecDepth 100000 in
set_option maxHeartbeats 8000000 in
theorem encode_any (w : World) (back : Bool) (c : UInt8) (T : List Bs) (N : List Int) (tv nv : Value) (hT : TextsIn w tv T) (hN : NumsIn w nv N) (hr : room ⟨T, N, []⟩ ≤ 800000) :
    Calls Tryd.prog 15 #[.bool back, .agg #[.int .u8 (c.toNat : Nat), tv, nv]] w fun e w' => e = .returned (encV c (written back c T N)) ∧ Below w.heap.size w w' := by
  have HT := Lib.hid hT; have HN := Lib.hid hN
  obtain ⟨at', nt, ct, rfl, _⟩ := hT
  obtain ⟨an, nn, cn, rfl, _⟩ := hN
  obtain ⟨R, hR⟩ : ∃ R, R = written back c T N := ⟨_, rfl⟩
  rw [← hR]
  have HR := Lib.hid hR
  clear hR
  obtain ⟨W0, hW0⟩ : ∃ x, x = ((w.alloc (.cells #[.int .u8 (c.toNat : Nat), .slice at' nt ct, .slice an nn cn] 28)).alloc (.cells #[.int .u8 0, .string { data := #[] }] 23)) := ⟨_, rfl⟩
  have hsz : W0.heap.size = w.heap.size + 1 + 1 := by rw [hW0]; simp
  have HB := Lib.hid (show Below w.heap.size w W0 by rw [hW0]; exact ((Below.refl _ _).alloc (Nat.le_refl _) _).alloc (by simp) _)
  have HK := Lib.hid (show W0.cell? ⟨w.heap.size, 0, none⟩ = some (.int .u8 (c.toNat : Nat)) ∧ W0.cell? ⟨w.heap.size + 1, 0, none⟩ = some (.int .u8 0) ∧ W0.cell? ⟨w.heap.size + 1, 1, none⟩ = some (.string { data := #[] }) ∧ W0.frozen? ⟨w.heap.size + 1, 0, none⟩ = false ∧ W0.frozen? ⟨w.heap.size + 1, 1, none⟩ = false by rw [hW0]; simp [go_sem])
  have HF := Lib.hid (write_any W0 back c T N _ _ (HT.out.mono HB.out) (HN.out.mono HB.out) hr)
  rw [← HR.out] at HF
  have HE := Lib.hid hW0
  have HSZ := Lib.hid hsz
  clear hW0 hsz hr
  go_enter Tryd.func15, Tryd.ntmps15
  go_wp2_with fail
  rw [← HE.out]
  refine HF.out.mono ?_; rintro e w1 ⟨rfl, hB1⟩
  have kk := HK.out
  have b0 : w1.cell? ⟨w.heap.size, 0, none⟩ = some (.int .u8 (c.toNat : Nat)) := (hB1.cell (p := ⟨w.heap.size, 0, none⟩) (by show w.heap.size < _; rw [HSZ.out]; omega)).trans kk.1
  have b1 : w1.cell? ⟨w.heap.size + 1, 0, none⟩ = some (.int .u8 0) := (hB1.cell (p := ⟨w.heap.size + 1, 0, none⟩) (by show w.heap.size + 1 < _; rw [HSZ.out]; omega)).trans kk.2.1
  have b2 : w1.cell? ⟨w.heap.size + 1, 1, none⟩ = some (.string { data := #[] }) := (hB1.cell (p := ⟨w.heap.size + 1, 1, none⟩) (by show w.heap.size + 1 < _; rw [HSZ.out]; omega)).trans kk.2.2.1
  have b3 : w1.frozen? ⟨w.heap.size + 1, 0, none⟩ = false := (hB1.frozen (p := ⟨w.heap.size + 1, 0, none⟩) (by show w.heap.size + 1 < _; rw [HSZ.out]; omega)).trans kk.2.2.2.1
  have b4 : w1.frozen? ⟨w.heap.size + 1, 1, none⟩ = false := (hB1.frozen (p := ⟨w.heap.size + 1, 1, none⟩) (by show w.heap.size + 1 < _; rw [HSZ.out]; omega)).trans kk.2.2.2.2
  have HBB := Lib.hid (HB.out.trans (hB1.mono (by rw [HSZ.out]; omega)))
  clear kk hB1
  unfold writtenV
  cases R with
  | none =>
    go_wp2_with fail
    simp [bodyPost, results, Tryd.results15, go_sem, b1, b2, encV, encE]
    exact (HBB.out.setCell (by show w.heap.size ≤ w.heap.size + 1; omega) _).setCell (by show w.heap.size ≤ w.heap.size + 1; omega) _
  | some B =>
    by_cases hlong : 10000 < B.length
    · have hl' : (10000 : Int) < B.length := by omega
      go_wp2_with fail
      simp [bodyPost, results, Tryd.results15, go_sem, b1, b2, encV, encE, hlong]
      exact (HBB.out.setCell (by show w.heap.size ≤ w.heap.size + 1; omega) _).setCell (by show w.heap.size ≤ w.heap.size + 1; omega) _
    · have hl' : ¬ (10000 : Int) < B.length := by omega
      go_wp2_with fail
      simp [bodyPost, results, Tryd.results15, go_sem, b1, b2, encV, encE, hlong]
      exact (HBB.out.setCell (by show w.heap.size ≤ w.heap.size + 1; omega) _).setCell (by show w.heap.size ≤ w.heap.size + 1; omega) _
end Go.Proofs.YtfdffiphlpeegaaDoor
