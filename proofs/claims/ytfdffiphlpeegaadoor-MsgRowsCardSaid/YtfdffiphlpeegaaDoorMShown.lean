/- The chapter's example. -/
import Derived.Test.YtfdffiphlpeegaaDoorMEnc
namespace Go.Proofs.YtfdffiphlpeegaaDoor
open Go.RowKit Go.Lib Go.WideShapes

set_option maxRecDepth 100000 in
set_option maxHeartbeats 8000000 in
theorem shown_any (w : World) : Calls Tryd.prog 8 #[] w fun e w' => e = .returned (.bool true) ∧ Below w.heap.size w w' := by
  obtain ⟨W0, hW0⟩ : ∃ x, x = w.alloc (.cells #[.string { data := #[97] }, .string { data := #[98] }] 9) := ⟨_, rfl⟩
  have hsz : W0.heap.size = w.heap.size + 1 := by rw [hW0]; simp
  have HB := Lib.hid (show Below w.heap.size w W0 by rw [hW0]; exact (Below.refl _ _).alloc (Nat.le_refl _) _)
  have hT : TextsIn W0 (.slice (some ⟨w.heap.size, 0, none⟩) 2 2) [[97], [98]] := by
    refine ⟨_, 2, 2, rfl, rfl, Nat.le_refl _, by omega, .inr ⟨_, 0, rfl, by rw [hsz]; omega, ?_⟩⟩
    intro i t ht
    rw [hW0]
    match i, ht with
    | 0, ht => obtain rfl := Option.some.inj ht; simp [go_sem]
    | 1, ht => obtain rfl := Option.some.inj ht; simp [go_sem]
  have HF := Lib.hid (encode_any W0 true 83 [[97], [98]] [] _ (.slice none 0 0) hT ⟨none, 0, 0, rfl, rfl, Nat.le_refl _, by omega, .inl rfl⟩ (by decide))
  have hR : written true 83 [[97], [98]] [] = some [97, 0, 98, 0] := by decide
  rw [hR] at HF
  have HF := Lib.hid (show Calls Tryd.prog 15 #[.bool true, .agg #[.int .u8 83, .slice (some ⟨w.heap.size, 0, none⟩) 2 2, .slice none 0 0]] W0 fun e w' => e = .returned (.tuple #[.agg #[.int .u8 83, .string { data := #[97, 0, 98, 0] }], .int .i64 0]) ∧ Below W0.heap.size W0 w' from HF.out)
  have HE := Lib.hid hW0
  have HSZ := Lib.hid hsz
  clear hW0 hsz hR hT
  go_enter Tryd.func8, Tryd.ntmps8
  go_wp2_with fail
  rw [← HE.out]
  refine HF.out.mono ?_; rintro e w1 ⟨rfl, hB1⟩
  have HB1 := Lib.hid (HB.out.trans (hB1.mono (by rw [HSZ.out]; omega)))
  clear hB1
  go_wp2_with fail
  go_ret
  exact ⟨rfl, HB1.out.alloc (by exact HB1.out.size) _⟩
end Go.Proofs.YtfdffiphlpeegaaDoor
