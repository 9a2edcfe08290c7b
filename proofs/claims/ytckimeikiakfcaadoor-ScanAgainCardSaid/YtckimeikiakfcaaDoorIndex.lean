/- Where the first sign that parts statements stands. -/
import Derived.Test.YtckimeikiakfcaaDoorClone
namespace Go.Proofs.YtckimeikiakfcaaDoor
open Go.RowKit Go.Lib Go.WideShapes

def semiAt (l : List Tok) : Nat := (l.takeWhile (fun t => !semi t)).length
theorem semiAt_le (l : List Tok) : semiAt l ≤ l.length := (List.takeWhile_prefix (l := l) (fun t => !semi t)).length_le
theorem semiAt_cons (t : Tok) (l : List Tok) : semiAt (t :: l) = if semi t = true then 0 else 1 + semiAt l := by
  unfold semiAt
  rw [List.takeWhile_cons]
  cases semi t <;> simp <;> omega

set_option maxHeartbeats 2000000 in
theorem index_any (p : Option Addr) (l : List Tok) (n c : Nat) (w : World) (hl : l.length = n) (h : TokOff w p l) (hn : n ≤ 2000) :
    Calls Tryd.prog 31 #[.slice p n c, .func (.func 32) #[] #[]] w fun e w' => e = .returned (.int .i64 (if semiAt l < n then (semiAt l : Int) else -1)) ∧ Below w.heap.size w w' := by
  have HL := Lib.hid hl; have H := Lib.hid h
  have HP := Lib.hid (fun q W => parts_any q W)
  obtain ⟨R, hR⟩ : ∃ R : Int, R = if semiAt l < n then (semiAt l : Int) else -1 := ⟨_, rfl⟩
  rw [← hR]
  have HR := Lib.hid hR
  clear hl h hR
  go_enter Tryd.func31, Tryd.ntmps31
  go_wp2_with fail
  go_loopg [8] n (fun g v wr => ∃ i : Nat, v = .int .i64 i ∧ i ≤ n ∧ g = n - i ∧ Below w.heap.size w wr ∧ semiAt l = i + semiAt (l.drop i))
  case atStart => exact ⟨0, rfl, Nat.zero_le _, rfl, Below.refl _ _, by simp⟩
  case round =>
    obtain ⟨i, rfl, hi, hg, hB, hr⟩ := hrel
    have HB := Lib.hid hB; have HG := Lib.hid hg; have HRR := Lib.hid hr
    clear hB hg hr
    by_cases hlt : i < n
    · have hlt' : (i : Int) < n := by omega
      obtain ⟨q, hq⟩ : ∃ q, l[i]? = some q := ⟨_, List.getElem?_eq_getElem (by rw [HL.out]; omega)⟩
      have HS := Lib.hid (show semiAt (l.drop i) = if semi q = true then 0 else 1 + semiAt (l.drop (i + 1)) by
        rw [List.drop_eq_getElem_cons (by rw [HL.out]; omega), semiAt_cons]
        rw [List.getElem?_eq_getElem (by rw [HL.out]; omega)] at hq
        cases hq; rfl)
      rcases H.out.step HB.out with rfl | ⟨g1, off, rfl, hg1, hc⟩
      · cases hq
      obtain ⟨x0, x1, x2, x3⟩ := hc i q hq
      clear hc hq
      go_wp2_with fail
      refine (HP.out q wr).mono ?_; rintro e w1 ⟨rfl, hb1⟩
      have HB1 := Lib.hid (HB.out.step hb1 HB.out.size)
      clear hb1
      by_cases hs : semi q = true
      · have HRI := Lib.hid (show R = i by rw [HR.out, HRR.out, HS.out, if_pos hs, if_pos (by omega)]; simp)
        rw [hs]
        go_wp2_with fail
        go_ret
        rw [HRI.out]
        exact ⟨rfl, HB1.out⟩
      · have HS2 := Lib.hid (show semiAt l = i + 1 + semiAt (l.drop (i + 1)) by rw [HRR.out, HS.out, if_neg hs]; omega)
        rw [show semi q = false by simpa using hs]
        go_wp2_with fail
        go_roundg (n - (i + 1))
        case measure => have := HG.out; omega
        case rel => exact ⟨i + 1, by go_num, by omega, rfl, HB1.out, HS2.out⟩
    · have hlt' : (n : Int) ≤ i := by omega
      have HRI := Lib.hid (show R = -1 by
        rw [HR.out, if_neg]
        rw [HRR.out]; omega)
      go_wp2_with fail
      go_ret
      rw [HRI.out]
      exact ⟨rfl, HB.out⟩
end Go.Proofs.YtckimeikiakfcaaDoor
