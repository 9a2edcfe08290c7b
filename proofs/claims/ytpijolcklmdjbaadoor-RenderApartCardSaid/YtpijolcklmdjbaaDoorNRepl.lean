/- strings.ReplaceAll of one byte by two of it. -/
import Derived.Test.YtpijolcklmdjbaaDoorDoubled
import Derived.Deep.LoopGhost
namespace Go.Proofs.YtpijolcklmdjbaaDoor
open Go.RowKit Go.Lib Go.WideShapes

set_option maxHeartbeats 2000000 in
/-- A text between two marks, each mark in it twice. -/
theorem quote_any (c : UInt8) (s : ByteArray) (m : Int) (w : World) (hs : s.size ≤ 100000) (hm : w.cell? ⟨1, 0, none⟩ = some (.int .i64 m)) :
    Calls Tryd.prog 36 #[.string s, .string ⟨#[c]⟩] w fun e w' => e = .returned (.string ⟨(c :: (doubled c (bytes s) ++ [c])).toArray⟩) ∧ Below w.heap.size w w' := by
  have hR := Tryd.strings_ReplaceAll s ⟨#[c]⟩ ⟨#[c, c]⟩ m w (by omega) hm (by show 1 ≤ 1; omega) (by have := countB_one s c; show s.size + Lib.countB s ⟨#[c]⟩ * 2 ≤ _; omega)
  rw [show Lib.replaceAll s.data.toList (⟨#[c]⟩ : ByteArray).data.toList (⟨#[c, c]⟩ : ByteArray).data.toList = doubled c (bytes s) from replaceAll_doubled c _] at hR
  have hl : (doubled c (bytes s)).length ≤ 200000 := by
    rw [doubled_length, bytes_len]
    have : (bytes s).count c ≤ (bytes s).length := List.count_le_length
    rw [bytes_len] at this; omega
  have HR := Lib.hid hR
  generalize doubled c (bytes s) = D at HR hl ⊢
  clear hR hm
  obtain ⟨X, hX⟩ : ∃ X : ByteArray, X = ⟨D.toArray⟩ := ⟨_, rfl⟩
  have hXs : X.size ≤ 200000 := by rw [hX, str_size]; exact hl
  have HX := Lib.hid (show (⟨#[c]⟩ : ByteArray) ++ X ++ ⟨#[c]⟩ = ⟨(c :: (D ++ [c])).toArray⟩ by rw [hX, show (⟨#[c]⟩ : ByteArray) = ⟨[c].toArray⟩ from rfl, str_cat, str_cat]; rfl)
  rw [← hX] at HR
  clear hX hl
  go_enter Tryd.func36, Tryd.ntmps36
  go_wp2_with fail
  refine HR.out.mono ?_; rintro e w1 ⟨rfl, hb1⟩
  have HB1 := Lib.hid hb1
  clear hb1 HR
  go_wp2_with fail
  go_ret
  exact ⟨by rw [← HX.out]; rfl, HB1.out⟩
end Go.Proofs.YtpijolcklmdjbaaDoor
