/- The example of the chapter on scanning. -/
import Derived.Test.YtckimeikiakfcaaDoorTold
namespace Go.Proofs.YtckimeikiakfcaaDoor
open Go.RowKit Go.Lib Go.WideShapes

set_option maxRecDepth 100000 in
theorem shown_true (m : Int) (w : World) (hm : w.cell? ⟨0, 0, none⟩ = some (.int .i64 m)) :
    Calls Tryd.prog 9 #[] w fun e w' => e = .returned (.bool true) ∧ Below w.heap.size w w' := by
  have hT : told (bytes { data := #[83, 101, 116, 32, 120, 61, 69, 39, 97, 92, 39, 98, 39, 32, 45, 45, 32, 99] }) = ([⟨119, [115, 101, 116], 0, 3⟩, ⟨119, [120], 4, 5⟩, ⟨111, [61], 5, 6⟩, ⟨115, [97, 39, 98], 6, 13⟩], 0) := by
    unfold told
    rw [if_neg (by decide), show tokens (bytes { data := #[83, 101, 116, 32, 120, 61, 69, 39, 97, 92, 39, 98, 39, 32, 45, 45, 32, 99] }) = _ from example_tokens]
  have HS := Lib.hid (scan_any { data := #[83, 101, 116, 32, 120, 61, 69, 39, 97, 92, 39, 98, 39, 32, 45, 45, 32, 99] } m w (by decide) hm)
  rw [hT] at HS
  clear hT hm
  go_enter Tryd.func9, Tryd.ntmps9
  go_wp2_with fail
  refine HS.out.mono ?_; rintro e w1 ⟨v, rfl, hO, hB⟩
  obtain ⟨g, cap, rfl, hn, hcm, _, _, hc⟩ := tok_cells hO (by decide)
  have a0 : w1.cell? ⟨g, 0, none⟩ = some (.int .u8 119) := hc 0 _ rfl
  have a1 : w1.cell? ⟨g, 1, none⟩ = some (.string { data := #[115, 101, 116] }) := hc 1 _ rfl
  have a2 : w1.cell? ⟨g, 8, none⟩ = some (.int .u8 111) := hc 8 _ rfl
  have a3 : w1.cell? ⟨g, 12, none⟩ = some (.int .u8 115) := hc 12 _ rfl
  have a4 : w1.cell? ⟨g, 13, none⟩ = some (.string { data := #[97, 39, 98] }) := hc 13 _ rfl
  have HB := Lib.hid hB
  clear hc hO hB HS
  go_wp2_with fail
  go_ret
  exact ⟨rfl, HB.out⟩
end Go.Proofs.YtckimeikiakfcaaDoor
