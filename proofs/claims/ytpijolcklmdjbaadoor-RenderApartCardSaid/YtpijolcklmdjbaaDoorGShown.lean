/- The statements' head: chapter 13's example; and what commands can be gone through. -/
import Derived.Test.YtpijolcklmdjbaaDoorGStat
namespace Go.Proofs.YtpijolcklmdjbaaDoor
open Go.RowKit Go.Lib Go.WideShapes

set_option maxRecDepth 100000 in
set_option maxHeartbeats 4000000 in
theorem shown13 (m : Int) (w : World) (hm : w.cell? ⟨1, 0, none⟩ = some (.int .i64 m)) (hT : TakenAt w) :
    Calls Tryd.prog 6 #[] w fun e w' => e = .returned (.bool true) ∧ Below w.heap.size w w' := by
  have h := stat_any 115 { data := #[97, 112, 112, 46, 116, 111] } { data := #[105, 116, 39, 115] } m w (by decide) (by decide) hm hT
  rw [show statT 115 (bytes { data := #[97, 112, 112, 46, 116, 111] }) (bytes { data := #[105, 116, 39, 115] }) = some [83, 69, 84, 32, 97, 112, 112, 46, 34, 116, 111, 34, 32, 84, 79, 32, 39, 105, 116, 39, 39, 115, 39] from by rfl] at h
  have HS := Lib.hid (show Calls Tryd.prog 8 #[.agg #[.int .u8 115, .string { data := #[97, 112, 112, 46, 116, 111] }, .string { data := #[105, 116, 39, 115] }]] w fun e w' => e = .returned (.tuple #[.string { data := #[83, 69, 84, 32, 97, 112, 112, 46, 34, 116, 111, 34, 32, 84, 79, 32, 39, 105, 116, 39, 39, 115, 39] }, .int .i64 0]) ∧ Below w.heap.size w w' from h)
  clear h hm hT
  go_enter Tryd.func6, Tryd.ntmps6
  go_wp2_with fail
  refine HS.out.mono ?_; rintro e w1 ⟨rfl, hb⟩
  have HB := Lib.hid hb
  clear hb
  go_wp2_with fail
  go_ret
  exact ⟨rfl, HB.out⟩

set_option maxHeartbeats 2000000 in
theorem g_short_any (k : Int) (n v : ByteArray) (w : World) (hn : n.size ≤ 140737488351232) (hv : v.size ≤ 140737488351232) :
    Calls Tryd.prog 7 #[.agg #[.int .u8 k, .string n, .string v]] w fun e w' => e = .returned (.bool (decide ((n.size : Int) + v.size < 2000))) ∧ Below w.heap.size w w' := by
  have hr : IntKind.i64.wrap ((n.size : Int) + v.size) = (n.size : Int) + v.size := IntWalk.i64_in _ (by omega)
  go_enter Tryd.func7, Tryd.ntmps7
  go_wp2_with fail
  go_ret
  exact ⟨by rfl, (Below.refl _ _).alloc (Nat.le_refl _) _⟩
end Go.Proofs.YtpijolcklmdjbaaDoor
