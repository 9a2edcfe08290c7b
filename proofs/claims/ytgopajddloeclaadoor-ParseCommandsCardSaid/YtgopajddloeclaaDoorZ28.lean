/- Contracts and mathematics: QSNumber, QSTag. -/
import Derived.Test.YtgopajddloeclaaDoorZ27
import Derived.Test.YtgopajddloeclaaDoorZ6
namespace Go.Proofs.YtgopajddloeclaaDoor
open Go.RowKit Go.Lib Go.WideShapes

theorem headD_at (l : Bs) (k : Nat) : (l.drop k).headD 0 = byteAt l k := by
  unfold byteAt
  rw [← List.head?_drop]
  cases l.drop k <;> rfl
theorem tail_at (l : Bs) (k : Nat) : (l.drop k).tail = l.drop (k + 1) := by rw [List.tail_drop]
theorem dg_in {l : Bs} {k : Nat} (h : dg (byteAt l k) = true) : k < l.length ∧ l.drop k = byteAt l k :: l.drop (k + 1) := by
  have h0 : byteAt l k ≠ 0 := fun e => by rw [e] at h; cases h
  obtain ⟨h1, h2⟩ := next_at h0 rfl
  exact ⟨h2, h1⟩
set_option maxRecDepth 100000 in
set_option maxHeartbeats 16000000 in
theorem qnumber_any (s : ByteArray) (i : Nat) (w : World) (hs : s.size ≤ 1000000) (hi : i ≤ s.size) :
    Calls Tryd.prog 100 #[.string s, .int .i64 i] w fun e w' => e = .returned (.int .i64 ((i + nl ((bytes s).drop i) : Nat) : Int)) ∧ w = w' := by
  obtain ⟨R, hR⟩ : ∃ R : Int, R = ((i + nl ((bytes s).drop i) : Nat) : Int) := ⟨_, rfl⟩
  have HR := Lib.hid hR
  rw [← hR]
  clear hR
  go_enter Tryd.func100, Tryd.ntmps100
  go_wp2_with fail
  go_loopw [1] (fun iv wr => ∃ j : Nat, iv = .int .i64 j ∧ j ≤ s.size ∧ i + nl ((bytes s).drop i) = j + nl ((bytes s).drop j) ∧ wr = w) (fun iv _ => s.size - (RowKit.intOf iv).toNat)
  case atStart => exact ⟨i, rfl, hi, rfl, rfl⟩
  case round =>
    obtain ⟨j, rfl, hj, hb, rfl⟩ := hrel
    have HB := Lib.hid hb
    clear hb
    by_cases hlt : j < s.size
    · have hlt' : (j : Int) < s.size := by omega
      have HD := Lib.hid (drop_at hlt)
      have HAT := Lib.hid (show Calls Tryd.prog 94 #[.string s, .int .i64 ((j : Int) + 1)] wr fun e w' => e = .returned (.int .u8 ((byteAt (bytes s) (j + 1)).toNat : Nat)) ∧ wr = w' from qat_any s (j + 1) wr (by omega))
      have HAT2 := Lib.hid (show Calls Tryd.prog 94 #[.string s, .int .i64 ((j : Int) + 2)] wr fun e w' => e = .returned (.int .u8 ((byteAt (bytes s) (j + 2)).toNat : Nat)) ∧ wr = w' from qat_any s (j + 2) wr (by omega))
      obtain ⟨b, hbb⟩ : ∃ z, z = byteAt (bytes s) (j + 1) := ⟨_, rfl⟩
      obtain ⟨c, hcc⟩ : ∃ z, z = byteAt (bytes s) (j + 2) := ⟨_, rfl⟩
      obtain ⟨a, ha⟩ : ∃ z, z = s[j] := ⟨_, rfl⟩
      have HBB := Lib.hid hbb; have HCC := Lib.hid hcc; have HA := Lib.hid ha
      rw [← hbb] at HAT
      rw [← hcc] at HAT2
      have HDA := Lib.hid (show Calls Tryd.prog 98 #[.int .u8 (s[j].toNat : Nat)] wr fun e w' => e = .returned (.bool (dg a)) ∧ wr = w' from by rw [ha]; exact qdigit_any _ wr)
      have HDB := Lib.hid (qdigit_any b wr); have HDC := Lib.hid (qdigit_any c wr)
      have HNE := Lib.hid (fun (h : ¬ (dg s[j] = true ∨ s[j] = 46)) => (congrArg nl HD.out).trans (nl_else (a := s[j]) (r := (bytes s).drop (j + 1)) h))
      clear hbb hcc
      by_cases hda : dg a = true
      · have HO := Lib.hid (show i + nl ((bytes s).drop i) = (j + 1) + nl ((bytes s).drop (j + 1)) from by rw [HB.out, HD.out, nl_on (.inl (by rw [← HA.out]; exact hda))]; omega)
        clear ha
        go_wp2_with fail
        refine HAT.out.mono ?_; rintro e w1 ⟨rfl, rfl⟩
        go_wp2_with fail
        refine HDA.out.mono ?_; rintro e w1 ⟨rfl, rfl⟩
        rw [hda]
        clear hda
        go_wp2_with fail
        go_roundw
        case measure => first | omega | (simp [RowKit.intOf]; omega)
        case rel => exact ⟨j + 1, by go_num, by omega, HO.out, by first | rfl | trivial⟩
      · have hda2 : dg a = false := by simpa using hda
        rw [hda2] at HDA
        by_cases h46 : a = 46
        · have t1 : ((s[j].toNat : Int) == 46) = true := by rw [← ha, h46]; rfl
          have HO := Lib.hid (show i + nl ((bytes s).drop i) = (j + 1) + nl ((bytes s).drop (j + 1)) from by rw [HB.out, HD.out, nl_on (.inr (by rw [← HA.out]; exact h46))]; omega)
          clear ha h46 hda hda2
          go_wp2_with fail
          refine HAT.out.mono ?_; rintro e w1 ⟨rfl, rfl⟩
          go_wp2_with fail
          refine HDA.out.mono ?_; rintro e w1 ⟨rfl, rfl⟩
          go_wp2_with fail
          go_roundw
          case measure => first | omega | (simp [RowKit.intOf]; omega)
          case rel => exact ⟨j + 1, by go_num, by omega, HO.out, by first | rfl | trivial⟩
        · have t1 : ((s[j].toNat : Int) == 46) = false := by rw [← ha, beq_eq_false_iff_ne]; intro e; exact h46 (UInt8.toNat_inj.1 (by show a.toNat = 46; omega))
          have HX := Lib.hid (HNE.out (by rw [← HA.out]; exact fun h => h.elim hda h46))
          have HHB := Lib.hid (show ((bytes s).drop (j + 1)).headD 0 = b from by rw [headD_at, HBB.out])
          have HHC := Lib.hid (show ((bytes s).drop (j + 1)).tail.headD 0 = c from by rw [tail_at, headD_at, HCC.out])
          clear hda h46 HNE
          by_cases he : a = 101 ∨ a = 69
          · have HE := Lib.hid (HX.out.trans (if_pos (by rw [← HA.out]; exact he)))
            have HT := Lib.hid he
            cases hdb : dg b with
            | true =>
              have hsg : ¬ (b = 43 ∨ b = 45) := by rintro (rfl | rfl) <;> cases hdb
              have hin := dg_in (l := bytes s) (k := j + 1) (by rw [← HBB.out]; exact hdb)
              rw [bytes_len] at hin
              have HO := Lib.hid (show i + nl ((bytes s).drop i) = (j + 2) + nl ((bytes s).drop (j + 2)) from by
                rw [HB.out, HE.out, HHB.out, if_neg hsg, if_pos hdb, hin.2, nl_on (.inl (by rw [← HBB.out]; exact hdb))]
                show j + (1 + (1 + nl ((bytes s).drop (j + 2)))) = _
                omega)
              rw [hdb] at HDB
              have hj2 : j + 2 ≤ s.size := by omega
              clear ha he hdb hsg hin
              rcases HT.out with he | he
              · have u1 : ((s[j].toNat : Int) == 101) = true := by rw [← HA.out, he]; rfl
                clear he
                go_wp2_with fail
                refine HAT.out.mono ?_; rintro e w1 ⟨rfl, rfl⟩
                go_wp2_with fail
                refine HDA.out.mono ?_; rintro e w1 ⟨rfl, rfl⟩
                go_wp2_with fail
                refine HDB.out.mono ?_; rintro e w1 ⟨rfl, rfl⟩
                go_wp2_with fail
                go_roundw
                case measure => first | omega | (simp [RowKit.intOf]; omega)
                case rel => exact ⟨j + 2, by go_num, by omega, HO.out, by first | rfl | trivial⟩
              · have u1 : ((s[j].toNat : Int) == 69) = true := by rw [← HA.out, he]; rfl
                have u2 : ((s[j].toNat : Int) == 101) = false := by rw [← HA.out, he]; rfl
                clear he
                go_wp2_with fail
                refine HAT.out.mono ?_; rintro e w1 ⟨rfl, rfl⟩
                go_wp2_with fail
                refine HDA.out.mono ?_; rintro e w1 ⟨rfl, rfl⟩
                go_wp2_with fail
                refine HDB.out.mono ?_; rintro e w1 ⟨rfl, rfl⟩
                go_wp2_with fail
                go_roundw
                case measure => first | omega | (simp [RowKit.intOf]; omega)
                case rel => exact ⟨j + 2, by go_num, by omega, HO.out, by first | rfl | trivial⟩
            | false =>
              rw [hdb] at HDB
              by_cases hsg : b = 43 ∨ b = 45
              · have HS := Lib.hid hsg
                cases hdc : dg c with
                | true =>
                  have hin := dg_in (l := bytes s) (k := j + 2) (by rw [← HCC.out]; exact hdc)
                  rw [bytes_len] at hin
                  have HO := Lib.hid (show i + nl ((bytes s).drop i) = (j + 3) + nl ((bytes s).drop (j + 3)) from by
                    rw [HB.out, HE.out, HHB.out, if_pos hsg, HHC.out, if_pos hdc, tail_at, hin.2, nl_on (.inl (by rw [← HCC.out]; exact hdc))]
                    show j + (2 + (1 + nl ((bytes s).drop (j + 3)))) = _
                    omega)
                  rw [hdc] at HDC
                  have hj3 : j + 3 ≤ s.size := by omega
                  clear ha he hdb hsg hin hdc
                  rcases HS.out with hq | hq
                  · have s1 : ((b.toNat : Int) == 43) = true := by rw [hq]; rfl
                    clear hq
                    rcases HT.out with he | he
                    · have u1 : ((s[j].toNat : Int) == 101) = true := by rw [← HA.out, he]; rfl
                      clear he
                      go_wp2_with fail
                      refine HAT.out.mono ?_; rintro e w1 ⟨rfl, rfl⟩
                      go_wp2_with fail
                      refine HDA.out.mono ?_; rintro e w1 ⟨rfl, rfl⟩
                      go_wp2_with fail
                      refine HDB.out.mono ?_; rintro e w1 ⟨rfl, rfl⟩
                      go_wp2_with fail
                      refine HAT2.out.mono ?_; rintro e w1 ⟨rfl, rfl⟩
                      go_wp2_with fail
                      refine HDC.out.mono ?_; rintro e w1 ⟨rfl, rfl⟩
                      go_wp2_with fail
                      go_roundw
                      case measure => first | omega | (simp [RowKit.intOf]; omega)
                      case rel => exact ⟨j + 3, by go_num, by omega, HO.out, by first | rfl | trivial⟩
                    · have u1 : ((s[j].toNat : Int) == 69) = true := by rw [← HA.out, he]; rfl
                      have u2 : ((s[j].toNat : Int) == 101) = false := by rw [← HA.out, he]; rfl
                      clear he
                      go_wp2_with fail
                      refine HAT.out.mono ?_; rintro e w1 ⟨rfl, rfl⟩
                      go_wp2_with fail
                      refine HDA.out.mono ?_; rintro e w1 ⟨rfl, rfl⟩
                      go_wp2_with fail
                      refine HDB.out.mono ?_; rintro e w1 ⟨rfl, rfl⟩
                      go_wp2_with fail
                      refine HAT2.out.mono ?_; rintro e w1 ⟨rfl, rfl⟩
                      go_wp2_with fail
                      refine HDC.out.mono ?_; rintro e w1 ⟨rfl, rfl⟩
                      go_wp2_with fail
                      go_roundw
                      case measure => first | omega | (simp [RowKit.intOf]; omega)
                      case rel => exact ⟨j + 3, by go_num, by omega, HO.out, by first | rfl | trivial⟩
                  · have s1 : ((b.toNat : Int) == 45) = true := by rw [hq]; rfl
                    have s2 : ((b.toNat : Int) == 43) = false := by rw [hq]; rfl
                    clear hq
                    rcases HT.out with he | he
                    · have u1 : ((s[j].toNat : Int) == 101) = true := by rw [← HA.out, he]; rfl
                      clear he
                      go_wp2_with fail
                      refine HAT.out.mono ?_; rintro e w1 ⟨rfl, rfl⟩
                      go_wp2_with fail
                      refine HDA.out.mono ?_; rintro e w1 ⟨rfl, rfl⟩
                      go_wp2_with fail
                      refine HDB.out.mono ?_; rintro e w1 ⟨rfl, rfl⟩
                      go_wp2_with fail
                      refine HAT2.out.mono ?_; rintro e w1 ⟨rfl, rfl⟩
                      go_wp2_with fail
                      refine HDC.out.mono ?_; rintro e w1 ⟨rfl, rfl⟩
                      go_wp2_with fail
                      go_roundw
                      case measure => first | omega | (simp [RowKit.intOf]; omega)
                      case rel => exact ⟨j + 3, by go_num, by omega, HO.out, by first | rfl | trivial⟩
                    · have u1 : ((s[j].toNat : Int) == 69) = true := by rw [← HA.out, he]; rfl
                      have u2 : ((s[j].toNat : Int) == 101) = false := by rw [← HA.out, he]; rfl
                      clear he
                      go_wp2_with fail
                      refine HAT.out.mono ?_; rintro e w1 ⟨rfl, rfl⟩
                      go_wp2_with fail
                      refine HDA.out.mono ?_; rintro e w1 ⟨rfl, rfl⟩
                      go_wp2_with fail
                      refine HDB.out.mono ?_; rintro e w1 ⟨rfl, rfl⟩
                      go_wp2_with fail
                      refine HAT2.out.mono ?_; rintro e w1 ⟨rfl, rfl⟩
                      go_wp2_with fail
                      refine HDC.out.mono ?_; rintro e w1 ⟨rfl, rfl⟩
                      go_wp2_with fail
                      go_roundw
                      case measure => first | omega | (simp [RowKit.intOf]; omega)
                      case rel => exact ⟨j + 3, by go_num, by omega, HO.out, by first | rfl | trivial⟩
                | false =>
                  have HN := Lib.hid (show R = (j : Int) from by rw [HR.out, HB.out, HE.out, HHB.out, if_pos hsg, HHC.out, if_neg (by rw [hdc]; decide)]; rfl)
                  rw [hdc] at HDC
                  clear ha he hdb hsg hdc
                  rcases HS.out with hq | hq
                  · have s1 : ((b.toNat : Int) == 43) = true := by rw [hq]; rfl
                    clear hq
                    rcases HT.out with he | he
                    · have u1 : ((s[j].toNat : Int) == 101) = true := by rw [← HA.out, he]; rfl
                      clear he
                      go_wp2_with fail
                      refine HAT.out.mono ?_; rintro e w1 ⟨rfl, rfl⟩
                      go_wp2_with fail
                      refine HDA.out.mono ?_; rintro e w1 ⟨rfl, rfl⟩
                      go_wp2_with fail
                      refine HDB.out.mono ?_; rintro e w1 ⟨rfl, rfl⟩
                      go_wp2_with fail
                      refine HAT2.out.mono ?_; rintro e w1 ⟨rfl, rfl⟩
                      go_wp2_with fail
                      refine HDC.out.mono ?_; rintro e w1 ⟨rfl, rfl⟩
                      go_wp2_with fail
                      go_ret
                      exact ⟨by rw [HN.out]; rfl, rfl⟩
                    · have u1 : ((s[j].toNat : Int) == 69) = true := by rw [← HA.out, he]; rfl
                      have u2 : ((s[j].toNat : Int) == 101) = false := by rw [← HA.out, he]; rfl
                      clear he
                      go_wp2_with fail
                      refine HAT.out.mono ?_; rintro e w1 ⟨rfl, rfl⟩
                      go_wp2_with fail
                      refine HDA.out.mono ?_; rintro e w1 ⟨rfl, rfl⟩
                      go_wp2_with fail
                      refine HDB.out.mono ?_; rintro e w1 ⟨rfl, rfl⟩
                      go_wp2_with fail
                      refine HAT2.out.mono ?_; rintro e w1 ⟨rfl, rfl⟩
                      go_wp2_with fail
                      refine HDC.out.mono ?_; rintro e w1 ⟨rfl, rfl⟩
                      go_wp2_with fail
                      go_ret
                      exact ⟨by rw [HN.out]; rfl, rfl⟩
                  · have s1 : ((b.toNat : Int) == 45) = true := by rw [hq]; rfl
                    have s2 : ((b.toNat : Int) == 43) = false := by rw [hq]; rfl
                    clear hq
                    rcases HT.out with he | he
                    · have u1 : ((s[j].toNat : Int) == 101) = true := by rw [← HA.out, he]; rfl
                      clear he
                      go_wp2_with fail
                      refine HAT.out.mono ?_; rintro e w1 ⟨rfl, rfl⟩
                      go_wp2_with fail
                      refine HDA.out.mono ?_; rintro e w1 ⟨rfl, rfl⟩
                      go_wp2_with fail
                      refine HDB.out.mono ?_; rintro e w1 ⟨rfl, rfl⟩
                      go_wp2_with fail
                      refine HAT2.out.mono ?_; rintro e w1 ⟨rfl, rfl⟩
                      go_wp2_with fail
                      refine HDC.out.mono ?_; rintro e w1 ⟨rfl, rfl⟩
                      go_wp2_with fail
                      go_ret
                      exact ⟨by rw [HN.out]; rfl, rfl⟩
                    · have u1 : ((s[j].toNat : Int) == 69) = true := by rw [← HA.out, he]; rfl
                      have u2 : ((s[j].toNat : Int) == 101) = false := by rw [← HA.out, he]; rfl
                      clear he
                      go_wp2_with fail
                      refine HAT.out.mono ?_; rintro e w1 ⟨rfl, rfl⟩
                      go_wp2_with fail
                      refine HDA.out.mono ?_; rintro e w1 ⟨rfl, rfl⟩
                      go_wp2_with fail
                      refine HDB.out.mono ?_; rintro e w1 ⟨rfl, rfl⟩
                      go_wp2_with fail
                      refine HAT2.out.mono ?_; rintro e w1 ⟨rfl, rfl⟩
                      go_wp2_with fail
                      refine HDC.out.mono ?_; rintro e w1 ⟨rfl, rfl⟩
                      go_wp2_with fail
                      go_ret
                      exact ⟨by rw [HN.out]; rfl, rfl⟩
              · have HN := Lib.hid (show R = (j : Int) from by rw [HR.out, HB.out, HE.out, HHB.out, if_neg hsg, if_neg (by rw [hdb]; decide)]; rfl)
                have s1 : ((b.toNat : Int) == 43) = false := by rw [beq_eq_false_iff_ne]; intro e; exact hsg (.inl (UInt8.toNat_inj.1 (by show b.toNat = 43; omega)))
                have s2 : ((b.toNat : Int) == 45) = false := by rw [beq_eq_false_iff_ne]; intro e; exact hsg (.inr (UInt8.toNat_inj.1 (by show b.toNat = 45; omega)))
                clear ha he hdb hsg
                rcases HT.out with he | he
                · have u1 : ((s[j].toNat : Int) == 101) = true := by rw [← HA.out, he]; rfl
                  clear he
                  go_wp2_with fail
                  refine HAT.out.mono ?_; rintro e w1 ⟨rfl, rfl⟩
                  go_wp2_with fail
                  refine HDA.out.mono ?_; rintro e w1 ⟨rfl, rfl⟩
                  go_wp2_with fail
                  refine HDB.out.mono ?_; rintro e w1 ⟨rfl, rfl⟩
                  go_wp2_with fail
                  go_ret
                  exact ⟨by rw [HN.out]; rfl, rfl⟩
                · have u1 : ((s[j].toNat : Int) == 69) = true := by rw [← HA.out, he]; rfl
                  have u2 : ((s[j].toNat : Int) == 101) = false := by rw [← HA.out, he]; rfl
                  clear he
                  go_wp2_with fail
                  refine HAT.out.mono ?_; rintro e w1 ⟨rfl, rfl⟩
                  go_wp2_with fail
                  refine HDA.out.mono ?_; rintro e w1 ⟨rfl, rfl⟩
                  go_wp2_with fail
                  refine HDB.out.mono ?_; rintro e w1 ⟨rfl, rfl⟩
                  go_wp2_with fail
                  go_ret
                  exact ⟨by rw [HN.out]; rfl, rfl⟩
          · have HN := Lib.hid (show R = (j : Int) from by rw [HR.out, HB.out, HX.out, if_neg (by rw [← HA.out]; exact he)]; rfl)
            have u1 : ((s[j].toNat : Int) == 101) = false := by rw [← ha, beq_eq_false_iff_ne]; intro e; exact he (.inl (UInt8.toNat_inj.1 (by show a.toNat = 101; omega)))
            have u2 : ((s[j].toNat : Int) == 69) = false := by rw [← ha, beq_eq_false_iff_ne]; intro e; exact he (.inr (UInt8.toNat_inj.1 (by show a.toNat = 69; omega)))
            clear ha he
            go_wp2_with fail
            refine HAT.out.mono ?_; rintro e w1 ⟨rfl, rfl⟩
            go_wp2_with fail
            refine HDA.out.mono ?_; rintro e w1 ⟨rfl, rfl⟩
            go_wp2_with fail
            go_ret
            exact ⟨by rw [HN.out]; rfl, rfl⟩
    · have hge : ¬ (j : Int) < s.size := by omega
      have HN := Lib.hid (show R = (j : Int) from by
        rw [HR.out, HB.out, List.drop_eq_nil_of_le (by rw [bytes_len]; omega)]; rfl)
      go_wp2_with fail
      go_ret
      exact ⟨by rw [HN.out]; rfl, rfl⟩
end Go.Proofs.YtgopajddloeclaaDoor

namespace Go.Proofs.YtgopajddloeclaaDoor
open Go.RowKit Go.Lib Go.WideShapes

def tagI (i : Nat) : Option Bs → Int
  | some t => ((i + t.length : Nat) : Int)
  | none => -1
def inTag (c : UInt8) : Bool := bw c || dg c
/-- From i up to k there is what may stand in a tag. -/
def TagTo (l : Bs) (i k : Nat) : Prop := k = i ∨ (i < k ∧ tagBody (l.drop i) = (l.drop i).take (k - i) ++ (l.drop k).takeWhile inTag)
theorem tagBody_cons (b : UInt8) (r : Bs) : tagBody (b :: r) = if bw b then b :: r.takeWhile inTag else [] := rfl
theorem tag_stop {l : Bs} {i k : Nat} (h : TagTo l i k) (_hk : k ≤ l.length) (hs : k = l.length ∨ ∃ c, l[k]? = some c ∧ bw c = false ∧ (k = i ∨ dg c = false)) : (tagBody (l.drop i)).length = k - i := by
  rcases hs with hs | ⟨c, hc, hb, hd⟩
  · rcases h with h | ⟨h1, h2⟩
    · subst h
      rw [List.drop_eq_nil_of_le (by omega)]
      show (tagBody []).length = _
      rw [Nat.sub_self]; rfl
    · rw [h2, List.drop_eq_nil_of_le (show l.length ≤ k by omega)]
      simp
      omega
  · obtain ⟨hlt, hg⟩ := List.getElem?_eq_some_iff.1 hc
    rcases h with h | ⟨h1, h2⟩
    · subst h
      rw [List.drop_eq_getElem_cons hlt, hg, tagBody_cons, if_neg (by rw [hb]; decide), Nat.sub_self]; rfl
    · have hdd : dg c = false := by
        rcases hd with hd | hd
        · omega
        · exact hd
      rw [h2, List.drop_eq_getElem_cons hlt, hg, List.takeWhile_cons, if_neg (by unfold inTag; rw [hb, hdd]; decide), List.append_nil, List.length_take, List.length_drop]
      omega
theorem tag_on {l : Bs} {i k : Nat} {c : UInt8} (h : TagTo l i k) (hc : l[k]? = some c) (hik : i ≤ k) (hg : bw c = true ∨ (¬ k = i ∧ dg c = true)) : TagTo l i (k + 1) := by
  obtain ⟨hlt, hx⟩ := List.getElem?_eq_some_iff.1 hc
  refine .inr ⟨by omega, ?_⟩
  rcases h with h | ⟨h1, h2⟩
  · subst h
    have hb : bw c = true := by
      rcases hg with hg | hg
      · exact hg
      · exact absurd rfl hg.1
    rw [List.drop_eq_getElem_cons hlt, hx, tagBody_cons, if_pos hb, show k + 1 - k = 1 by omega]
    rfl
  · have hin : inTag c = true := by
      unfold inTag
      rcases hg with hg | hg
      · rw [hg]; rfl
      · rw [hg.2]; simp
    rw [h2, List.drop_eq_getElem_cons hlt, hx, List.takeWhile_cons, if_pos hin]
    have ht : (l.drop i).take (k + 1 - i) = (l.drop i).take (k - i) ++ [c] := by
      rw [show k + 1 - i = (k - i) + 1 by omega, List.take_add_one, List.getElem?_drop, show i + (k - i) = k by omega, hc]; rfl
    rw [ht]
    simp
theorem tag_of {l : Bs} {i k : Nat} (h36 : l[i]? = some 36) (hl : (tagBody (l.drop (i + 1))).length = k - (i + 1)) (hik : i + 1 ≤ k) : tagI i (tagOf (l.drop i)) = if l[k]? = some 36 then ((k : Int) + 1) else -1 := by
  obtain ⟨hlt, hx⟩ := List.getElem?_eq_some_iff.1 h36
  rw [List.drop_eq_getElem_cons hlt, hx]
  show tagI i (if (36 : UInt8) = 36 ∧ ((l.drop (i + 1)).drop (tagBody (l.drop (i + 1))).length).head? = some 36 then some (36 :: (tagBody (l.drop (i + 1)) ++ [36])) else none) = _
  rw [hl, List.drop_drop, show i + 1 + (k - (i + 1)) = k by omega, List.head?_drop]
  by_cases hk : l[k]? = some 36
  · rw [if_pos ⟨rfl, hk⟩, if_pos hk]
    show ((i + (36 :: (tagBody (l.drop (i + 1)) ++ [36])).length : Nat) : Int) = _
    rw [List.length_cons, List.length_append, hl, List.length_singleton]
    omega
  · rw [if_neg (fun h => hk h.2), if_neg hk]; rfl
set_option maxRecDepth 100000 in
set_option maxHeartbeats 8000000 in
theorem qtag_any (s : ByteArray) (i : Nat) (w : World) (hs : s.size ≤ 1000000) (h36 : (bytes s)[i]? = some 36) :
    Calls Tryd.prog 101 #[.string s, .int .i64 i] w fun e w' => e = .returned (.int .i64 (tagI i (tagOf ((bytes s).drop i)))) ∧ w = w' := by
  obtain ⟨R, hR⟩ : ∃ R : Int, R = tagI i (tagOf ((bytes s).drop i)) := ⟨_, rfl⟩
  have HR := Lib.hid hR
  have HS := Lib.hid h36
  have hi : i < s.size := by rw [← bytes_len]; exact (List.getElem?_eq_some_iff.1 h36).1
  rw [← hR]
  clear hR h36
  go_enter Tryd.func101, Tryd.ntmps101
  go_wp2_with fail
  go_loopw [5] (fun kv wr => ∃ k : Nat, kv = .int .i64 k ∧ i + 1 ≤ k ∧ k ≤ s.size ∧ TagTo (bytes s) (i + 1) k ∧ wr = w) (fun kv _ => s.size - (RowKit.intOf kv).toNat)
  case atStart => exact ⟨i + 1, by go_num, Nat.le_refl _, by omega, .inl rfl, rfl⟩
  case round =>
    obtain ⟨k, rfl, hik, hk, ht, rfl⟩ := hrel
    have HT := Lib.hid ht
    clear ht
    by_cases hlt : k < s.size
    · have hlt' : (k : Int) < s.size := by omega
      have hg : (bytes s)[k]? = some s[k] := get_atQ hlt
      obtain ⟨c, hc⟩ : ∃ z, z = s[k] := ⟨_, rfl⟩
      have HG := Lib.hid (show (bytes s)[k]? = some c from by rw [hc]; exact hg)
      have HF := Lib.hid (show Calls Tryd.prog 97 #[.int .u8 (s[k].toNat : Nat)] wr fun e w' => e = .returned (.bool (bw c)) ∧ wr = w' from by rw [hc]; exact qfirst_any _ wr)
      have HDG := Lib.hid (show Calls Tryd.prog 98 #[.int .u8 (s[k].toNat : Nat)] wr fun e w' => e = .returned (.bool (dg c)) ∧ wr = w' from by rw [hc]; exact qdigit_any _ wr)
      clear hg
      by_cases h36 : c = 36
      · have t1 : ((s[k].toNat : Int) == 36) = true := by rw [← hc, h36]; rfl
        have HN := Lib.hid (show R = (k : Int) + 1 from by
          rw [HR.out, tag_of HS.out (tag_stop HT.out (by rw [bytes_len]; exact hk) (.inr ⟨c, HG.out, by rw [h36]; rfl, .inr (by rw [h36]; rfl)⟩)) hik, if_pos (by rw [HG.out, h36])])
        clear hc h36
        go_wp2_with fail
        go_ret
        exact ⟨by rw [HN.out]; rfl, rfl⟩
      · have t1 : ((s[k].toNat : Int) == 36) = false := by rw [← hc, beq_eq_false_iff_ne]; intro e; exact h36 (UInt8.toNat_inj.1 (by show c.toNat = 36; omega))
        have HNO := Lib.hid (show bw c = false → (k = i + 1 ∨ dg c = false) → R = -1 from fun h1 h2 => by
          rw [HR.out, tag_of HS.out (tag_stop HT.out (by rw [bytes_len]; exact hk) (.inr ⟨c, HG.out, h1, h2⟩)) hik, if_neg (by rw [HG.out]; exact fun e => h36 (Option.some.inj e))])
        clear hc h36
        cases hb : bw c with
        | true =>
          have HO := Lib.hid (tag_on HT.out HG.out hik (.inl hb))
          rw [hb] at HF
          clear hb
          go_wp2_with fail
          refine HF.out.mono ?_; rintro e w1 ⟨rfl, rfl⟩
          go_wp2_with fail
          go_roundw
          case measure => first | omega | (simp [RowKit.intOf]; omega)
          case rel => exact ⟨k + 1, by go_num, by omega, by omega, HO.out, by first | rfl | trivial⟩
        | false =>
          rw [hb] at HF
          by_cases hki : k = i + 1
          · have t2 : ((k : Int) == (i : Int) + 1) = true := by simp; omega
            have HN := Lib.hid (HNO.out hb (.inl hki))
            clear hb hki
            go_wp2_with fail
            refine HF.out.mono ?_; rintro e w1 ⟨rfl, rfl⟩
            go_wp2_with fail
            go_ret
            exact ⟨by rw [HN.out]; rfl, rfl⟩
          · have t2 : ((k : Int) == (i : Int) + 1) = false := by rw [beq_eq_false_iff_ne]; omega
            cases hd : dg c with
            | true =>
              have HO := Lib.hid (tag_on HT.out HG.out hik (.inr ⟨hki, hd⟩))
              rw [hd] at HDG
              clear hb hd hki
              go_wp2_with fail
              refine HF.out.mono ?_; rintro e w1 ⟨rfl, rfl⟩
              go_wp2_with fail
              refine HDG.out.mono ?_; rintro e w1 ⟨rfl, rfl⟩
              go_wp2_with fail
              go_roundw
              case measure => first | omega | (simp [RowKit.intOf]; omega)
              case rel => exact ⟨k + 1, by go_num, by omega, by omega, HO.out, by first | rfl | trivial⟩
            | false =>
              have HN := Lib.hid (HNO.out hb (.inr hd))
              rw [hd] at HDG
              clear hb hd hki
              go_wp2_with fail
              refine HF.out.mono ?_; rintro e w1 ⟨rfl, rfl⟩
              go_wp2_with fail
              refine HDG.out.mono ?_; rintro e w1 ⟨rfl, rfl⟩
              go_wp2_with fail
              go_ret
              exact ⟨by rw [HN.out]; rfl, rfl⟩
    · have hge : ¬ (k : Int) < s.size := by omega
      have HN := Lib.hid (show R = -1 from by
        rw [HR.out, tag_of HS.out (tag_stop HT.out (by rw [bytes_len]; exact hk) (.inl (by rw [bytes_len]; omega))) hik, if_neg (by rw [List.getElem?_eq_none (by rw [bytes_len]; omega)]; intro h; cases h)])
      go_wp2_with fail
      go_ret
      exact ⟨by rw [HN.out]; rfl, rfl⟩
theorem find_cons (t : Bs) (a : UInt8) (r : Bs) : find t (a :: r) = if t.isPrefixOf (a :: r) then some 0 else (find t r).map (· + 1) := rfl
theorem find_short (t : Bs) : ∀ l : Bs, l.length < t.length → find t l = none
  | [], h => by
    show (if t = [] then some 0 else none) = none
    rw [if_neg (fun e => by rw [e] at h; cases h)]
  | a :: r, h => by
    rw [find_cons, if_neg (fun e => by have := (List.isPrefixOf_iff_prefix.1 e).length_le; omega), find_short t r (by simp at h; omega)]; rfl
def findI (i : Nat) : Option Nat → Int
  | some n => ((i + n : Nat) : Int)
  | none => -1
theorem prefix_take {t l : Bs} (_h : t.length ≤ l.length) : (l.take t.length == t) = t.isPrefixOf l := by
  rw [Bool.eq_iff_iff, beq_iff_eq, List.isPrefixOf_iff_prefix, List.prefix_iff_eq_take]
  exact eq_comm
set_option maxRecDepth 100000 in
set_option maxHeartbeats 8000000 in
theorem qfind_any (s t : ByteArray) (i : Nat) (w : World) (hs : s.size ≤ 1000000) (ht : t.size ≤ 1000000) (hi : i ≤ s.size) :
    Calls Tryd.prog 102 #[.string s, .int .i64 i, .string t] w fun e w' => e = .returned (.int .i64 (findI i (find (bytes t) ((bytes s).drop i)))) ∧ w = w' := by
  obtain ⟨R, hR⟩ : ∃ R : Int, R = findI i (find (bytes t) ((bytes s).drop i)) := ⟨_, rfl⟩
  have HR := Lib.hid hR
  rw [← hR]
  clear hR
  go_enter Tryd.func102, Tryd.ntmps102
  go_wp2_with fail
  go_loopw [1] (fun iv wr => ∃ j : Nat, iv = .int .i64 j ∧ j ≤ s.size ∧ findI i (find (bytes t) ((bytes s).drop i)) = findI j (find (bytes t) ((bytes s).drop j)) ∧ wr = w) (fun iv _ => s.size + 1 - (RowKit.intOf iv).toNat)
  case atStart => exact ⟨i, rfl, hi, rfl, rfl⟩
  case round =>
    obtain ⟨j, rfl, hj, hb, rfl⟩ := hrel
    have HB := Lib.hid hb
    clear hb
    by_cases hle : j + t.size ≤ s.size
    · have hle' : (j : Int) + t.size ≤ s.size := by omega
      have hcmp : ((s.extract j (j + t.size)).toList == t.toList) = (bytes t).isPrefixOf ((bytes s).drop j) := by
        have h1 : (s.extract j (j + t.size)).toList = ((bytes s).drop j).take (bytes t).length := by
          rw [Lib.toList_data, bytes_len]
          simp [bytes]
        rw [h1, Lib.toList_data]
        exact prefix_take (by rw [List.length_drop, bytes_len, bytes_len]; omega)
      cases hp : (bytes t).isPrefixOf ((bytes s).drop j) with
      | true =>
        rw [hp] at hcmp
        have HN := Lib.hid (show R = (j : Int) from by
          rw [HR.out, HB.out]
          have h0 : find (bytes t) ((bytes s).drop j) = some 0 := by
            cases hd : (bytes s).drop j with
            | nil =>
              rw [hd] at hp
              have h9 : bytes t = [] := by simpa using List.isPrefixOf_iff_prefix.1 hp
              show (if bytes t = [] then some 0 else none) = _
              rw [if_pos h9]
            | cons a r => rw [hd] at hp; rw [find_cons, if_pos hp]
          rw [h0]; rfl)
        clear hp
        go_wp2_with fail
        go_ret
        exact ⟨by rw [HN.out]; rfl, rfl⟩
      | false =>
        rw [hp] at hcmp
        have hlt : j < s.size := by
          rcases Nat.lt_or_ge j s.size with h | _
          · exact h
          · have h0 : t.size = 0 := by omega
            have h1 : bytes t = [] := List.length_eq_zero_iff.1 (by rw [bytes_len]; exact h0)
            rw [h1] at hp; cases hp
        have HO := Lib.hid (show findI i (find (bytes t) ((bytes s).drop i)) = findI (j + 1) (find (bytes t) ((bytes s).drop (j + 1))) from by
          rw [HB.out, drop_at hlt, find_cons, if_neg (by rw [← drop_at hlt, hp]; decide)]
          cases find (bytes t) ((bytes s).drop (j + 1)) with
          | none => rfl
          | some n => show ((j + (n + 1) : Nat) : Int) = ((j + 1 + n : Nat) : Int); omega)
        clear hp
        go_wp2_with fail
        go_roundw
        case measure => first | omega | (simp [RowKit.intOf]; omega)
        case rel => exact ⟨j + 1, by go_num, by omega, HO.out, by first | rfl | trivial⟩
    · have hgt : ¬ (j : Int) + t.size ≤ s.size := by omega
      have HN := Lib.hid (show R = -1 from by
        rw [HR.out, HB.out, find_short _ _ (by rw [List.length_drop, bytes_len, bytes_len]; omega)]; rfl)
      clear hle
      go_wp2_with fail
      go_ret
      exact ⟨by rw [HN.out]; rfl, rfl⟩
end Go.Proofs.YtgopajddloeclaaDoor
