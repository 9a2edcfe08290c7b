/- Contracts and mathematics: NRefFold. -/
import Derived.Test.YtgopajddloeclaaDoorZ5
namespace Go.Proofs.YtgopajddloeclaaDoor
open Go.RowKit Go.Lib Go.WideShapes

set_option maxRecDepth 100000 in
set_option maxHeartbeats 2000000 in
theorem reffold_wide (s : ByteArray) (w : World) (hs : s.size ≤ 1000000) :
    Calls Tryd.prog 99 #[.string s] w fun e w' => e = .returned (.string ⟨((bytes s).map low).toArray⟩) ∧ Below w.heap.size w w' := by
  obtain ⟨cap, W, hcv, hF⟩ := folds_start s w
  have HF := Lib.hid hF
  obtain ⟨g, hg⟩ : ∃ g, g = w.heap.size := ⟨_, rfl⟩
  rw [← hg] at hcv HF
  clear hF hg
  go_enter Tryd.func99, Tryd.ntmps99
  go_wp2_with fail
  clear hcv
  go_loopw [4] (fun i wr => ∃ k : Nat, k ≤ s.size ∧ i = .int .i64 k ∧ Folds w wr g s k) (fun i _ => s.size - (RowKit.intOf i).toNat)
  case atStart => exact ⟨0, Nat.zero_le _, rfl, HF.out⟩
  case round =>
    obtain ⟨k, hk, rfl, hF⟩ := hrel
    have HK := Lib.hid hF
    clear HF
    by_cases hlt : k < s.size
    · have c0 := hF.cells k hlt
      have f0 := hF.free k hlt
      rw [if_neg (by omega)] at c0
      have hc8 := pb_lt s k
      have hlo := lowN_eq (pb s k) hc8
      have HN := Lib.hid (fun h => HK.out.next hlt h); have HS := Lib.hid (fun (z : Int) (h : z = (lowN (pb s k) : Nat)) => HK.out.store hlt h)
      obtain ⟨c, hc⟩ : ∃ c, c = pb s k := ⟨_, rfl⟩
      rw [← hc] at c0 hc8 hlo HN HS
      have hlt' : (k : Int) < s.size := by omega
      clear hF hc HK
      by_cases h1 : 65 ≤ c ∧ c ≤ 90
      · rw [if_pos h1] at hlo
        obtain ⟨h1, h2⟩ := h1
        have h1' : (65 : Int) ≤ c := by omega
        have h2' : (c : Int) ≤ 90 := by omega
        have HLO := Lib.hid hlo
        clear hlo
        go_wp2_with fail
        go_roundw
        case rel => exact ⟨k + 1, by omega, by go_num, HS.out _ (by rw [HLO.out]; omega)⟩
        case measure => simp [RowKit.intOf]; omega
      · rw [if_neg h1] at hlo
        have HLO := Lib.hid hlo
        have h2 : decide ((65 : Int) ≤ c) = false ∨ decide ((65 : Int) ≤ c) = true ∧ decide ((c : Int) ≤ 90) = false := by
          by_cases h : (65 : Int) ≤ c
          · exact .inr ⟨decide_eq_true h, decide_eq_false (by omega)⟩
          · exact .inl (decide_eq_false h)
        clear hlo h1
        rcases h2 with h2 | ⟨h2, h3⟩
        · have h2' : (c : Int) < 65 := by simpa using h2
          go_wp2_with fail
          go_roundw
          case rel => exact ⟨k + 1, by omega, by go_num, HN.out HLO.out⟩
          case measure => simp [RowKit.intOf]; omega
        · have h2' : (65 : Int) ≤ c := by simpa using h2
          have h3' : (90 : Int) < c := by simpa using h3
          go_wp2_with fail
          go_roundw
          case rel => exact ⟨k + 1, by omega, by go_num, HN.out HLO.out⟩
          case measure => simp [RowKit.intOf]; omega
    · obtain rfl : k = s.size := by omega
      have htx := HK.out.text cap
      have HB := Lib.hid hF.below
      clear hF
      go_wp2_with fail
      go_ret
      exact ⟨rfl, HB.out⟩
theorem reffold_any (s : ByteArray) (w : World) (hs : s.size ≤ 2000) :
    Calls Tryd.prog 99 #[.string s] w fun e w' => e = .returned (.string ⟨((bytes s).map low).toArray⟩) ∧ Below w.heap.size w w' := reffold_wide s w (by omega)
end Go.Proofs.YtgopajddloeclaaDoor
