/- The example of the chapter on names. -/
import Derived.Test.YtalnflfafapicaaDoorNGood
namespace Go.Proofs.YtalnflfafapicaaDoor
open Go.RowKit Go.Lib Go.WideShapes

theorem below_drew {w w' : World} (h : ∃ n, w' = w.drewN n) : Below w.heap.size w w' := by
  obtain ⟨n, rfl⟩ := h
  exact below_drewN (Below.refl _ _) n

theorem example_ident : identB (bytes { data := #[116, 111] }) = [34, 116, 111, 34] := by rfl
theorem example_literal : quoted 39 (bytes { data := #[105, 116, 39, 115] }) = [39, 105, 116, 39, 39, 115, 39] := by rfl
theorem example_good : goodB (bytes { data := #[97, 46, 98, 95, 49] }) = true := by rfl

set_option maxHeartbeats 2000000 in
theorem shown7_true (m : Int) (w : World) (hm : w.cell? ⟨1, 0, none⟩ = some (.int .i64 m)) (hT : TakenAt w) :
    Calls Tryd.prog 9 #[] w fun e w' => e = .returned (.bool true) ∧ Below w.heap.size w w' := by
  have HM := Lib.hid hm
  have HW0 := Lib.hid (World.block_lt_of_cell? w ⟨1, 0, none⟩ hm)
  have HI := Lib.hid (ident_any { data := #[116, 111] } m w (by decide) hm hT)
  have HL := Lib.hid (fun W h => literal_any { data := #[105, 116, 39, 115] } m W (by decide) h)
  have HG := Lib.hid (fun W h => good_any { data := #[97, 46, 98, 95, 49] } m W (by decide) h)
  rw [example_ident] at HI
  rw [example_literal] at HL
  rw [example_good] at HG
  clear hm hT
  go_enter Tryd.func9, Tryd.ntmps9
  go_wp2_with fail
  refine HI.out.mono ?_; rintro e w1 ⟨rfl, hb1⟩
  have HM1 := Lib.hid ((hb1.cell (p := ⟨1, 0, none⟩) HW0.out).trans HM.out)
  have HB1 := Lib.hid hb1
  clear hb1
  go_wp2_with fail
  refine (HL.out w1 HM1.out).mono ?_; rintro e w2 ⟨rfl, hb2⟩
  have HB2 := Lib.hid (HB1.out.step hb2 HB1.out.size)
  have HM2 := Lib.hid ((HB2.out.cell (p := ⟨1, 0, none⟩) HW0.out).trans HM.out)
  clear hb2
  go_wp2_with fail
  refine (HG.out w2 HM2.out).mono ?_; rintro e w3 ⟨rfl, hb3⟩
  have HB3 := Lib.hid (HB2.out.step (below_drew hb3) HB2.out.size)
  clear hb3
  go_wp2_with fail
  go_ret
  exact ⟨rfl, HB3.out⟩

theorem TakenAt.below {w w' : World} (h : TakenAt w) (hb : Below w.heap.size w w') : TakenAt w' := h.step hb
end Go.Proofs.YtalnflfafapicaaDoor
