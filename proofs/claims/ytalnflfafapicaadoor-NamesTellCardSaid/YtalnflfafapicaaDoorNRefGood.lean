/- The document's Good. -/
import Derived.Test.YtalnflfafapicaaDoorNRefPart
import Derived.Test.YtalnflfafapicaaDoorNGood
import Derived.Test.YtalnflfafapicaaDoorNNameM
namespace Go.Proofs.YtalnflfafapicaaDoor
open Go.RowKit Go.Lib Go.WideShapes

theorem gbytes_cut (a : ByteArray) (i j : Nat) : bytes (a.extract i j) = ((bytes a).drop i).take (j - i) := by
  unfold bytes
  rw [ByteArray.data_extract, Array.toList_extract]

theorem good_dot {s : ByteArray} {k : Nat} (hk : k < s.size) (h : (46 : UInt8) ∉ (bytes s).take k) (hc : s[k].toNat = 46) : goodB (bytes s) = (decide (s.size ≤ 63) && (partB (bytes (s.extract 0 k)) && partB (bytes (s.extract (k + 1) s.size)))) := by
  have hkl : k < (bytes s).length := by rw [bytes_len]; exact hk
  have e : bytes s = (bytes s).take k ++ 46 :: (bytes s).drop (k + 1) := by
    conv => lhs; rw [← List.take_append_drop k (bytes s), List.drop_eq_getElem_cons hkl]
    rw [bytes_get s k hk, show s[k] = 46 from UInt8.toNat_inj.1 hc]
  have h1 : bytes (s.extract 0 k) = (bytes s).take k := by rw [gbytes_cut]; simp
  have h2 : bytes (s.extract (k + 1) s.size) = (bytes s).drop (k + 1) := by rw [gbytes_cut, List.take_of_length_le]; rw [List.length_drop, bytes_len]; omega
  have hcut : Lib.cut (bytes s) [46] = ((bytes s).take k, (bytes s).drop (k + 1), true) := by
    conv => lhs; rw [e]
    exact cut_at h _
  unfold goodB
  rw [hcut, bytes_len, h1, h2]; rfl
theorem good_plain {s : ByteArray} (h : (46 : UInt8) ∉ bytes s) : goodB (bytes s) = (decide (s.size ≤ 63) && partB (bytes s)) := by
  unfold goodB
  rw [cut_none h, bytes_len]; simp
theorem dot_next {s : ByteArray} {k : Nat} (hk : k < s.size) (h : (46 : UInt8) ∉ (bytes s).take k) (hc : ¬ s[k].toNat = 46) : (46 : UInt8) ∉ (bytes s).take (k + 1) := by
  have hkl : k < (bytes s).length := by rw [bytes_len]; exact hk
  rw [List.take_succ_eq_append_getElem hkl]
  intro e
  rcases List.mem_append.1 e with e | e
  · exact h e
  · have := List.mem_singleton.1 e
    rw [bytes_get s k hk] at this
    exact hc (by rw [← this]; rfl)

set_option maxHeartbeats 2000000 in
theorem refgood_any (s : ByteArray) (w : World) (hs : s.size ≤ 100000) :
    Calls Tryd.prog 14 #[.string s] w fun e w' => e = .returned (.bool (goodB (bytes s))) ∧ w = w' := by
  obtain ⟨R, hR⟩ : ∃ R, R = goodB (bytes s) := ⟨_, rfl⟩
  rw [← hR]
  have HR := Lib.hid hR
  have HP := Lib.hid (fun (S : ByteArray) W h => refpart_any S W h)
  clear hR
  go_enter Tryd.func14, Tryd.ntmps14
  go_wp2_with fail
  go_loopg [3] s.size (fun g v wr => ∃ k : Nat, v = .int .i64 k ∧ k ≤ s.size ∧ g = s.size - k ∧ wr = w ∧ (46 : UInt8) ∉ (bytes s).take k)
  case atStart => exact ⟨0, rfl, Nat.zero_le _, rfl, rfl, by simp⟩
  case round =>
    obtain ⟨k, rfl, hk, hg, rfl, ho⟩ := hrel
    have HO := Lib.hid ho; have HG := Lib.hid hg
    clear ho hg
    by_cases hlt : k < s.size
    · have hlt' : (k : Int) < s.size := by omega
      by_cases hc : s[k].toNat = 46
      · have hb : ((s[k].toNat : Int) == 46) = true := by simp; omega
        have HE := Lib.hid (good_dot hlt HO.out hc)
        have hz1 : (s.extract 0 k).size ≤ 9223372036854775807 := by rw [ByteArray.size_extract]; omega
        have hz2 : (s.extract (k + 1) s.size).size ≤ 9223372036854775807 := by rw [ByteArray.size_extract]; omega
        have HZ1 := Lib.hid hz1; have HZ2 := Lib.hid hz2
        have hk1 : (k : Int) + 1 ≤ s.size := by omega
        clear hc hz1 hz2
        go_wp2_with fail
        refine (HP.out _ wr HZ1.out).mono ?_; rintro e w1 ⟨rfl, rfl⟩
        cases h1 : partB (bytes (s.extract 0 k)) with
        | false =>
          have HF := Lib.hid (show R = false by rw [HR.out, HE.out, h1]; simp)
          clear h1
          go_wp2_with fail
          go_ret
          exact ⟨by rw [HF.out]; rfl, rfl⟩
        | true =>
          have H1 := Lib.hid h1
          clear h1
          go_wp2_with fail
          refine (HP.out _ wr HZ2.out).mono ?_; rintro e w1 ⟨rfl, rfl⟩
          cases h2 : partB (bytes (s.extract (k + 1) s.size)) with
          | false =>
            have HF := Lib.hid (show R = false by rw [HR.out, HE.out, h2]; simp)
            clear h2
            go_wp2_with fail
            go_ret
            exact ⟨by rw [HF.out]; rfl, rfl⟩
          | true =>
            have H2 := Lib.hid h2
            clear h2
            by_cases h3 : s.size ≤ 63
            · have h3' : (s.size : Int) ≤ 63 := by omega
              have HF := Lib.hid (show R = true by rw [HR.out, HE.out, H1.out, H2.out]; simpa using h3)
              clear h3
              go_wp2_with fail
              go_ret
              exact ⟨by rw [HF.out]; simp <;> omega, rfl⟩
            · have h3' : (63 : Int) < s.size := by omega
              have HF := Lib.hid (show R = false by rw [HR.out, HE.out, decide_eq_false h3]; rfl)
              clear h3
              go_wp2_with fail
              go_ret
              exact ⟨by rw [HF.out]; simp <;> omega, rfl⟩
      · have hb : ((s[k].toNat : Int) == 46) = false := by simp; omega
        have HX := Lib.hid (dot_next hlt HO.out hc)
        clear hc
        go_wp2_with fail
        go_roundg (s.size - (k + 1))
        case measure => have := HG.out; omega
        case rel => exact ⟨k + 1, by go_num, by omega, rfl, rfl, HX.out⟩
    · obtain rfl : k = s.size := by omega
      have HE := Lib.hid (good_plain (s := s) (by have := HO.out; rwa [List.take_of_length_le (by rw [bytes_len]; exact Nat.le_refl _)] at this))
      go_wp2_with fail
      refine (HP.out s wr (by omega)).mono ?_; rintro e w1 ⟨rfl, rfl⟩
      cases h1 : partB (bytes s) with
      | false =>
        have HF := Lib.hid (show R = false by rw [HR.out, HE.out, h1]; simp)
        clear h1
        go_wp2_with fail
        go_ret
        exact ⟨by rw [HF.out]; rfl, rfl⟩
      | true =>
        have H1 := Lib.hid h1
        clear h1
        by_cases h3 : s.size ≤ 63
        · have h3' : (s.size : Int) ≤ 63 := by omega
          have HF := Lib.hid (show R = true by rw [HR.out, HE.out, H1.out]; simpa using h3)
          clear h3
          go_wp2_with fail
          go_ret
          exact ⟨by rw [HF.out]; simp <;> omega, rfl⟩
        · have h3' : (63 : Int) < s.size := by omega
          have HF := Lib.hid (show R = false by rw [HR.out, HE.out, decide_eq_false h3]; rfl)
          clear h3
          go_wp2_with fail
          go_ret
          exact ⟨by rw [HF.out]; simp <;> omega, rfl⟩
end Go.Proofs.YtalnflfafapicaaDoor
