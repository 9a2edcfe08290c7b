/- The document's part of a name. -/
import Derived.Test.YtalnflfafapicaaDoorNPart
namespace Go.Proofs.YtalnflfafapicaaDoor
open Go.RowKit Go.Lib Go.WideShapes

set_option maxHeartbeats 2000000 in
theorem refpart_any (s : ByteArray) (w : World) (hs : s.size ≤ 9223372036854775807) :
    Calls Tryd.prog 27 #[.string s] w fun e w' => e = .returned (.bool (partB (bytes s))) ∧ w = w' := by
  obtain ⟨R, hR⟩ : ∃ R, R = partB (bytes s) := ⟨_, rfl⟩
  rw [← hR]
  have HR := Lib.hid hR
  clear hR
  by_cases h0 : s.size = 0
  · have HF := Lib.hid (show R = false by rw [HR.out, show bytes s = [] from List.length_eq_zero_iff.1 (by rw [bytes_len]; exact h0)]; rfl)
    obtain rfl : s = { data := #[] } := by
      apply ByteArray.ext
      exact Array.eq_empty_of_size_eq_zero h0
    clear h0
    go_enter Tryd.func27, Tryd.ntmps27
    go_wp2_with fail
    go_loopg [3] 0 (fun g v wr => v = .int .i64 0 ∧ g = 0 ∧ wr = w)
    case atStart => exact ⟨rfl, rfl, rfl⟩
    case round =>
      obtain ⟨rfl, hg, rfl⟩ := hrel
      clear hg
      go_wp2_with fail
      go_ret
      exact ⟨by rw [HF.out]; rfl, rfl⟩
  have hs0 : 0 < s.size := by omega
  have hne : s.toList.isEmpty = false := str_some s hs0
  go_enter Tryd.func27, Tryd.ntmps27
  go_wp2_with fail
  go_loopg [3] s.size (fun g v wr => ∃ k : Nat, v = .int .i64 k ∧ k ≤ s.size ∧ g = s.size - k ∧ wr = w ∧ okTo (bytes s) k)
  case atStart => exact ⟨0, rfl, Nat.zero_le _, rfl, rfl, fun i _ h => absurd h (Nat.not_lt_zero _)⟩
  case round =>
    obtain ⟨k, rfl, hk, hg, rfl, ho⟩ := hrel
    have HO := Lib.hid ho; have HG := Lib.hid hg
    clear ho hg
    by_cases hlt : k < s.size
    · have hlt' : (k : Int) < s.size := by omega
      have hkl : k < (bytes s).length := by rw [bytes_len]; exact hlt
      have HB := Lib.hid (partB_take (bytes s) k hkl)
      have HL := Lib.hid (lowB_nat s[k])
      have HD := Lib.hid (digB_nat s[k])
      have HST := Lib.hid (okTo_step HO.out hlt)
      have hc : ((97 : Int) ≤ s[k].toNat ∧ (s[k].toNat : Int) ≤ 122) ∨ s[k].toNat = 95 ∨ ((48 : Int) ≤ s[k].toNat ∧ (s[k].toNat : Int) ≤ 57) ∨ (s[k].toNat : Int) < 48 ∨ ((57 : Int) < s[k].toNat ∧ (s[k].toNat : Int) < 95) ∨ s[k].toNat = 96 ∨ (122 : Int) < s[k].toNat := by omega
      rcases hc with ⟨a1, a2⟩ | hc | ⟨a1, a2⟩ | a1 | ⟨a1, a2⟩ | hc | a1
      · have HX := Lib.hid (HST.out (.inl (by rw [HL.out]; simp; omega)))
        have b2 : ((s[k].toNat : Int) != 95) = true := by simp; omega
        go_wp2_with fail
        go_roundg (s.size - (k + 1))
        case measure => have := HG.out; omega
        case rel => exact ⟨k + 1, by go_num, by omega, rfl, rfl, HX.out⟩
      · have HX := Lib.hid (HST.out (.inl (by rw [HL.out]; simp; omega)))
        have b2 : ((s[k].toNat : Int) != 95) = false := by simp; omega
        clear hc
        go_wp2_with fail
        go_roundg (s.size - (k + 1))
        case measure => have := HG.out; omega
        case rel => exact ⟨k + 1, by go_num, by omega, rfl, rfl, HX.out⟩
      all_goals
        have b1 : (s[k].toNat : Int) < 97 ∨ ((97 : Int) ≤ s[k].toNat ∧ (122 : Int) < s[k].toNat) := by omega
        have b2 : ((s[k].toNat : Int) != 95) = true := by simp; omega
        have HLF := Lib.hid (show lowB s[k] = false by rw [HL.out]; simp; omega)
        rcases b1 with b1 | ⟨b0, b1⟩
        all_goals first | (exfalso; omega) | skip
        all_goals
          by_cases hk0 : k = 0
          · have HF := Lib.hid (show R = false by rw [HR.out]; exact HB.out.1 hk0 HLF.out)
            subst hk0
            try clear hc
            clear HB HL HD HST HLF
            go_wp2_with fail
            go_ret
            exact ⟨by rw [HF.out]; rfl, rfl⟩
          · have hk1 : 0 < k := by omega
            have hk2 : ((k : Int) == 0) = false := by simp; omega
            clear hk0
            first
              | (have d1 : (48 : Int) ≤ s[k].toNat := by omega
                 have d2 : (s[k].toNat : Int) ≤ 57 := by omega
                 have HX := Lib.hid (HST.out (.inr ⟨hk1, by rw [HD.out]; simp; omega⟩))
                 go_wp2_with fail
                 go_roundg (s.size - (k + 1))
                 case measure => have := HG.out; omega
                 case rel => exact ⟨k + 1, by go_num, by omega, rfl, rfl, HX.out⟩)
              | (have HF := Lib.hid (show R = false by rw [HR.out]; exact HB.out.2 HLF.out (by show digB s[k] = false; rw [HD.out]; simp; omega))
                 first
                   | (have d1 : (s[k].toNat : Int) < 48 := by omega
                      go_wp2_with fail
                      go_ret
                      exact ⟨by rw [HF.out]; rfl, rfl⟩)
                   | (have d1 : (48 : Int) ≤ s[k].toNat := by omega
                      have d2 : (57 : Int) < s[k].toNat := by omega
                      try clear hc
                      go_wp2_with fail
                      go_ret
                      exact ⟨by rw [HF.out]; rfl, rfl⟩))
    · obtain rfl : k = s.size := by omega
      have HT := Lib.hid (show R = true by rw [HR.out]; exact okTo_end (by rw [bytes_len]; exact HO.out) (fun e => by have := bytes_len s; rw [e] at this; simp at this; omega))
      go_wp2_with fail
      go_ret
      exact ⟨by rw [HT.out]; rfl, rfl⟩
end Go.Proofs.YtalnflfafapicaaDoor
