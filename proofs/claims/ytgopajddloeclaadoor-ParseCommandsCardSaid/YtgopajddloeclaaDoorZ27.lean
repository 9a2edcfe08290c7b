/- Contracts and mathematics: QSSkip, QSQuoted. -/
import Derived.Test.YtgopajddloeclaaDoorZ26
import Derived.Test.YtgopajddloeclaaDoorZ7
namespace Go.Proofs.YtgopajddloeclaaDoor
open Go.RowKit Go.Lib Go.WideShapes

theorem while_atQ {l : Bs} {k : Nat} {x : UInt8} (h : l[k]? = some x) (hx : x ≠ 10) : (l.drop k).dropWhile (· != 10) = (l.drop (k + 1)).dropWhile (· != 10) := by
  obtain ⟨hk, he⟩ := List.getElem?_eq_some_iff.1 h
  rw [List.drop_eq_getElem_cons hk, he, List.dropWhile_cons, if_pos (by simpa using hx)]
theorem while_endQ {l : Bs} {k : Nat} (h : l[k]? = some 10 ∨ l.length ≤ k) : (l.drop k).dropWhile (· != 10) = l.drop k := by
  rcases h with h | h
  · obtain ⟨hk, he⟩ := List.getElem?_eq_some_iff.1 h
    rw [List.drop_eq_getElem_cons hk, he, List.dropWhile_cons, if_neg (by simp)]
  · rw [List.drop_eq_nil_of_le h]; rfl
theorem get_atQ {s : ByteArray} {k : Nat} (h : k < s.size) : (bytes s)[k]? = some s[k] := by
  rw [List.getElem?_eq_getElem (by rw [bytes_len]; exact h)]
  rfl
set_option maxRecDepth 100000 in
set_option maxHeartbeats 8000000 in
theorem qskip_any (s : ByteArray) (i : Nat) (w : World) (hs : s.size ≤ 1000000) (hi : i ≤ s.size) :
    Calls Tryd.prog 67 #[.string s, .int .i64 i] w fun e w' => e = .returned (.int .i64 (resI s.size (sk ((bytes s).drop i) 0))) ∧ w = w' := by
  obtain ⟨R, hR⟩ : ∃ R, R = resI s.size (sk ((bytes s).drop i) 0) := ⟨_, rfl⟩
  have HR := Lib.hid hR
  rw [← hR]
  clear hR
  go_enter Tryd.func67, Tryd.ntmps67
  go_wp2_with fail
  go_loopw [1] (fun iv wr => ∃ j : Nat, iv = .int .i64 j ∧ j ≤ s.size ∧ sk ((bytes s).drop i) 0 = sk ((bytes s).drop j) 0 ∧ wr = w) (fun iv _ => s.size - (RowKit.intOf iv).toNat)
  case atStart => exact ⟨i, rfl, hi, rfl, rfl⟩
  case round =>
    obtain ⟨j, rfl, hj, hb, rfl⟩ := hrel
    have HB := Lib.hid hb
    clear hb
    by_cases hlt : j < s.size
    · have hlt' : (j : Int) < s.size := by omega
      have HD := Lib.hid (drop_at hlt)
      have HAT := Lib.hid (show Calls Tryd.prog 94 #[.string s, .int .i64 ((j : Int) + 1)] wr fun e w' => e = .returned (.int .u8 ((byteAt (bytes s) (j + 1)).toNat : Nat)) ∧ wr = w' from qat_any s (j + 1) wr (by omega))
      obtain ⟨b, hbb⟩ : ∃ z, z = byteAt (bytes s) (j + 1) := ⟨_, rfl⟩
      have HBB := Lib.hid hbb
      rw [← hbb] at HAT
      obtain ⟨a, ha⟩ : ∃ z, z = s[j] := ⟨_, rfl⟩
      have HA := Lib.hid ha
      clear hbb
      by_cases h32 : a = 32
      · have t1 : ((s[j].toNat : Int) == 32) = true := by rw [← ha, h32]; rfl

        have HO := Lib.hid (HB.out.trans ((congrArg (sk · 0) HD.out).trans (sk_blank (by rw [← HA.out, h32]; rfl))))
        clear ha h32
        go_wp2_with fail
        go_roundw
        case measure => first | omega | (simp [RowKit.intOf]; omega)
        case rel => exact ⟨j + 1, by go_num, by omega, HO.out, by first | rfl | trivial⟩
      by_cases h9 : a = 9
      · have t1 : ((s[j].toNat : Int) == 9) = true := by rw [← ha, h9]; rfl
        have n32 : ((s[j].toNat : Int) == 32) = false := by rw [← ha, beq_eq_false_iff_ne]; intro e; exact h32 (UInt8.toNat_inj.1 (by show a.toNat = 32; omega))
        have HO := Lib.hid (HB.out.trans ((congrArg (sk · 0) HD.out).trans (sk_blank (by rw [← HA.out, h9]; rfl))))
        clear ha h32 h9
        go_wp2_with fail
        go_roundw
        case measure => first | omega | (simp [RowKit.intOf]; omega)
        case rel => exact ⟨j + 1, by go_num, by omega, HO.out, by first | rfl | trivial⟩
      by_cases h10 : a = 10
      · have t1 : ((s[j].toNat : Int) == 10) = true := by rw [← ha, h10]; rfl
        have n32 : ((s[j].toNat : Int) == 32) = false := by rw [← ha, beq_eq_false_iff_ne]; intro e; exact h32 (UInt8.toNat_inj.1 (by show a.toNat = 32; omega))
        have n9 : ((s[j].toNat : Int) == 9) = false := by rw [← ha, beq_eq_false_iff_ne]; intro e; exact h9 (UInt8.toNat_inj.1 (by show a.toNat = 9; omega))
        have HO := Lib.hid (HB.out.trans ((congrArg (sk · 0) HD.out).trans (sk_blank (by rw [← HA.out, h10]; rfl))))
        clear ha h32 h9 h10
        go_wp2_with fail
        go_roundw
        case measure => first | omega | (simp [RowKit.intOf]; omega)
        case rel => exact ⟨j + 1, by go_num, by omega, HO.out, by first | rfl | trivial⟩
      by_cases h13 : a = 13
      · have t1 : ((s[j].toNat : Int) == 13) = true := by rw [← ha, h13]; rfl
        have n32 : ((s[j].toNat : Int) == 32) = false := by rw [← ha, beq_eq_false_iff_ne]; intro e; exact h32 (UInt8.toNat_inj.1 (by show a.toNat = 32; omega))
        have n9 : ((s[j].toNat : Int) == 9) = false := by rw [← ha, beq_eq_false_iff_ne]; intro e; exact h9 (UInt8.toNat_inj.1 (by show a.toNat = 9; omega))
        have n10 : ((s[j].toNat : Int) == 10) = false := by rw [← ha, beq_eq_false_iff_ne]; intro e; exact h10 (UInt8.toNat_inj.1 (by show a.toNat = 10; omega))
        have HO := Lib.hid (HB.out.trans ((congrArg (sk · 0) HD.out).trans (sk_blank (by rw [← HA.out, h13]; rfl))))
        clear ha h32 h9 h10 h13
        go_wp2_with fail
        go_roundw
        case measure => first | omega | (simp [RowKit.intOf]; omega)
        case rel => exact ⟨j + 1, by go_num, by omega, HO.out, by first | rfl | trivial⟩
      have n32 : ((s[j].toNat : Int) == 32) = false := by rw [← ha, beq_eq_false_iff_ne]; intro e; exact h32 (UInt8.toNat_inj.1 (by show a.toNat = 32; omega))
      have n9 : ((s[j].toNat : Int) == 9) = false := by rw [← ha, beq_eq_false_iff_ne]; intro e; exact h9 (UInt8.toNat_inj.1 (by show a.toNat = 9; omega))
      have n10 : ((s[j].toNat : Int) == 10) = false := by rw [← ha, beq_eq_false_iff_ne]; intro e; exact h10 (UInt8.toNat_inj.1 (by show a.toNat = 10; omega))
      have n13 : ((s[j].toNat : Int) == 13) = false := by rw [← ha, beq_eq_false_iff_ne]; intro e; exact h13 (UInt8.toNat_inj.1 (by show a.toNat = 13; omega))
      have HNB := Lib.hid (show blank s[j] = false from by
        rw [← HA.out]
        unfold blank
        rw [beq_eq_false_iff_ne.2 h32, beq_eq_false_iff_ne.2 h9, beq_eq_false_iff_ne.2 h10, beq_eq_false_iff_ne.2 h13]; rfl)
      have HN10 := Lib.hid (show s[j] ≠ 10 from fun e => h10 (ha.trans e))
      clear h32 h9 h10 h13
      by_cases h45 : a = 45
      · have t1 : ((s[j].toNat : Int) == 45) = true := by rw [← ha, h45]; rfl
        have t9 : ((s[j].toNat : Int) == 47) = false := by rw [← ha, h45]; rfl
        by_cases hb45 : b = 45
        · have t2 : ((b.toNat : Int) == 45) = true := by rw [hb45]; rfl
          have hnx := next_at (b := 45) (by decide) (HBB.out.symm.trans hb45)
          rw [bytes_len] at hnx
          have hop : (bytes s).drop j = 45 :: 45 :: (bytes s).drop (j + 2) := by rw [HD.out, ← ha, h45, hnx.1]
          have HO := Lib.hid (HB.out.trans (sk_dash hop))
          clear ha h45 hb45 hnx hop
          go_wp2_with fail
          refine HAT.out.mono ?_; rintro e w1 ⟨rfl, rfl⟩
          go_wp2_with fail
          go_loopw [1] (fun iv wx => ∃ k : Nat, iv = .int .i64 k ∧ j ≤ k ∧ k ≤ s.size ∧ ((bytes s).drop j).dropWhile (· != 10) = ((bytes s).drop k).dropWhile (· != 10) ∧ wx = wr) (fun iv _ => s.size - (RowKit.intOf iv).toNat)
          case atStart => exact ⟨j, rfl, Nat.le_refl _, hj, rfl, rfl⟩
          case round =>
            obtain ⟨k, rfl, hjk, hk, hw, rfl⟩ := hrel
            have HW := Lib.hid hw
            clear hw
            by_cases hkl : k < s.size
            · have hkl' : (k : Int) < s.size := by omega
              by_cases h10 : s[k] = 10
              · have q1 : ((s[k].toNat : Int) != 10) = false := by rw [h10]; rfl
                have hjk' : j < k := by
                  rcases Nat.lt_or_eq_of_le hjk with h | h
                  · exact h
                  · subst h; exact absurd h10 HN10.out
                have HP := Lib.hid (HO.out.trans (congrArg (sk · 0) (HW.out.trans (while_endQ (.inl ((get_atQ hkl).trans (congrArg some h10)))))))
                clear h10
                go_wp2_with fail
                go_roundw
                case measure => first | omega | (simp [RowKit.intOf]; omega)
                case rel => exact ⟨k, rfl, hk, HP.out, by first | rfl | trivial⟩
              · have q1 : ((s[k].toNat : Int) != 10) = true := by rw [bne_iff_ne]; intro e; exact h10 (UInt8.toNat_inj.1 (by show s[k].toNat = 10; omega))
                have HP := Lib.hid (HW.out.trans (while_atQ (get_atQ hkl) h10))
                clear h10
                go_wp2_with fail
                go_roundw
                case measure => first | omega | (simp [RowKit.intOf]; omega)
                case rel => exact ⟨k + 1, by go_num, by omega, by omega, HP.out, by first | rfl | trivial⟩
            · have hge : ¬ (k : Int) < s.size := by omega
              have HP := Lib.hid (HO.out.trans (congrArg (sk · 0) (HW.out.trans (while_endQ (.inr (by rw [bytes_len]; omega))))))
              go_wp2_with fail
              go_roundw
              case measure => first | omega | (simp [RowKit.intOf]; omega)
              case rel => exact ⟨k, rfl, hk, HP.out, by first | rfl | trivial⟩
        · have t2 : ((b.toNat : Int) == 45) = false := by rw [beq_eq_false_iff_ne]; intro e; exact hb45 (UInt8.toNat_inj.1 (by show b.toNat = 45; omega))
          have HN := Lib.hid (show R = (j : Int) from by
            rw [HR.out, HB.out, HD.out, sk_here HNB.out (pair_false (fun h => next_not (fun e => hb45 (HBB.out.trans e)) h.2)) (pair_false (fun h => absurd (h45.symm.trans (ha.trans h.1)) (by decide))), ← HD.out, res_drop (by omega)])
          clear ha h45 hb45
          go_wp2_with fail
          refine HAT.out.mono ?_; rintro e w1 ⟨rfl, rfl⟩
          go_wp2_with fail
          go_ret
          exact ⟨by rw [HN.out]; rfl, rfl⟩
      · have t1 : ((s[j].toNat : Int) == 45) = false := by rw [← ha, beq_eq_false_iff_ne]; intro e; exact h45 (UInt8.toNat_inj.1 (by show a.toNat = 45; omega))
        by_cases h47 : a = 47
        · have t9 : ((s[j].toNat : Int) == 47) = true := by rw [← ha, h47]; rfl
          by_cases hb42 : b = 42
          · have t2 : ((b.toNat : Int) == 42) = true := by rw [hb42]; rfl
            have hnx := next_at (b := 42) (by decide) (HBB.out.symm.trans hb42)
            rw [bytes_len] at hnx
            have hop : (bytes s).drop j = 47 :: 42 :: (bytes s).drop (j + 2) := by rw [HD.out, ← ha, h47, hnx.1]
            have HO := Lib.hid (HB.out.trans (sk_open hop))
            have HCM := Lib.hid (qcomment_any s j wr hs (by rw [hop]; rfl))
            clear ha h45 h47 hb42 hnx hop
            cases hk : bk ((bytes s).drop j) 0 with
            | none =>
              rw [hk] at HCM
              have HN := Lib.hid (show R = -1 from by rw [HR.out, HO.out, hk]; rfl)
              clear hk
              go_wp2_with fail
              refine HAT.out.mono ?_; rintro e w1 ⟨rfl, rfl⟩
              go_wp2_with fail
              refine HCM.out.mono ?_; rintro e w1 ⟨rfl, rfl⟩
              rw [show resI s.size none = -1 from rfl]
              go_wp2_with fail
              go_ret
              exact ⟨by rw [HN.out]; rfl, rfl⟩
            | some r =>
              obtain ⟨n, hn1, hr, hnl⟩ := bk_sub _ _ _ _ (Nat.le_refl _) hk
              rw [List.length_drop, bytes_len] at hnl
              rw [hk] at HCM
              have hrr : r = (bytes s).drop (j + n) := by rw [hr, List.drop_drop]
              rw [hrr, res_drop (by omega)] at HCM
              have HP := Lib.hid (show sk ((bytes s).drop i) 0 = sk ((bytes s).drop (j + n)) 0 from by rw [HO.out, hk, hrr]; rfl)
              clear hk hr hrr
              go_wp2_with fail
              refine HAT.out.mono ?_; rintro e w1 ⟨rfl, rfl⟩
              go_wp2_with fail
              refine HCM.out.mono ?_; rintro e w1 ⟨rfl, rfl⟩
              have hpos : ¬ ((j + n : Nat) : Int) < 0 := by omega
              go_wp2_with fail
              go_roundw
              case measure => first | omega | (simp [RowKit.intOf]; omega)
              case rel => exact ⟨j + n, by go_num, by omega, HP.out, by first | rfl | trivial⟩
          · have t2 : ((b.toNat : Int) == 42) = false := by rw [beq_eq_false_iff_ne]; intro e; exact hb42 (UInt8.toNat_inj.1 (by show b.toNat = 42; omega))
            have HN := Lib.hid (show R = (j : Int) from by
              rw [HR.out, HB.out, HD.out, sk_here HNB.out (pair_false (fun h => absurd (h47.symm.trans (ha.trans h.1)) (by decide))) (pair_false (fun h => next_not (fun e => hb42 (HBB.out.trans e)) h.2)), ← HD.out, res_drop (by omega)])
            clear ha h45 h47 hb42
            go_wp2_with fail
            refine HAT.out.mono ?_; rintro e w1 ⟨rfl, rfl⟩
            go_wp2_with fail
            go_ret
            exact ⟨by rw [HN.out]; rfl, rfl⟩
        · have t9 : ((s[j].toNat : Int) == 47) = false := by rw [← ha, beq_eq_false_iff_ne]; intro e; exact h47 (UInt8.toNat_inj.1 (by show a.toNat = 47; omega))
          have HN := Lib.hid (show R = (j : Int) from by
            rw [HR.out, HB.out, HD.out, sk_here HNB.out (pair_false (fun h => absurd (ha.trans h.1) h45)) (pair_false (fun h => absurd (ha.trans h.1) h47)), ← HD.out, res_drop (by omega)])
          clear ha h45 h47 HAT
          go_wp2_with fail
          go_ret
          exact ⟨by rw [HN.out]; rfl, rfl⟩
    · have hge : ¬ (j : Int) < s.size := by omega
      have hje : j = s.size := by omega
      have HN := Lib.hid (show R = (j : Int) from by
        have h0 : sk ((bytes s).drop j) 0 = some ((bytes s).drop j) := by rw [List.drop_eq_nil_of_le (by rw [bytes_len]; omega)]; rfl
        rw [HR.out, HB.out, h0, res_drop hj])
      clear hje
      go_wp2_with fail
      go_ret
      exact ⟨by rw [HN.out]; rfl, rfl⟩
end Go.Proofs.YtgopajddloeclaaDoor

namespace Go.Proofs.YtgopajddloeclaaDoor
open Go.RowKit Go.Lib Go.WideShapes

theorem qb_cat (a b : ByteArray) : bytes (a ++ b) = bytes a ++ bytes b := by simp [bytes]
theorem qb_one {s : ByteArray} {j : Nat} (h : j < s.size) : bytes (s.extract j (j + 1)) = [s[j]] := by
  have h1 : bytes (s.extract j (j + 1)) = ((bytes s).drop j).take (j + 1 - j) := by simp [bytes]
  rw [h1, show j + 1 - j = 1 by omega, drop_at h]
  rfl
theorem qb_size {s : ByteArray} {j : Nat} (h : j < s.size) : (s.extract j (j + 1)).size = 1 := by rw [ByteArray.size_extract]; omega
theorem qt_noneQ (mark : UInt8) (esc : Bool) : qt mark esc [] = none := rfl
theorem qt_esc {mark y : UInt8} {r : Bs} : qt mark true (92 :: y :: r) = (qt mark true r).map fun p => (escd y :: p.1, p.2) := by rw [qt_two, if_pos ⟨rfl, rfl⟩]
theorem qt_esc_end {mark : UInt8} : qt mark true [92] = none := by rw [qt_one, if_pos ⟨rfl, rfl⟩]
theorem qt_twice {mark : UInt8} {esc : Bool} {r : Bs} (hm : mark ≠ 92) : qt mark esc (mark :: mark :: r) = (qt mark esc r).map fun p => (mark :: p.1, p.2) := by
  rw [qt_two, if_neg (fun h => hm h.2), if_pos rfl, if_pos rfl]
theorem qt_end {mark : UInt8} {esc : Bool} {r : Bs} (hm : mark ≠ 92) (h : r.head? ≠ some mark) : qt mark esc (mark :: r) = some ([], r) := by
  cases r with
  | nil => rw [qt_one, if_neg (fun h => hm h.2), if_pos rfl]
  | cons y r' =>
    have hy : ¬ y = mark := fun e => h (by rw [e]; rfl)
    rw [qt_two, if_neg (fun h => hm h.2), if_pos rfl, if_neg hy]
theorem qt_plain {mark x : UInt8} {esc : Bool} {r : Bs} (h1 : ¬ (esc = true ∧ x = 92)) (h2 : ¬ x = mark) : qt mark esc (x :: r) = (qt mark esc r).map fun p => (x :: p.1, p.2) := by
  cases r with
  | nil => rw [qt_one, if_neg h1, if_neg h2]
  | cons y r' => rw [qt_two, if_neg h1, if_neg h2]
/-- What quoted answers. -/
def qtV (n : Nat) : Option (Bs × Bs) → Value
  | some p => .tuple #[.string ⟨p.1.toArray⟩, .int .i64 ((n - p.2.length : Nat) : Int)]
  | none => .tuple #[.string { data := #[] }, .int .i64 (-1)]
set_option maxRecDepth 100000 in
set_option maxHeartbeats 16000000 in
theorem qquoted_any (s : ByteArray) (i : Nat) (mark : UInt8) (esc : Bool) (w : World) (hs : s.size ≤ 1000000) (hi : i ≤ s.size) (hm0 : mark ≠ 0) (hm : mark ≠ 92) :
    Calls Tryd.prog 96 #[.string s, .int .i64 i, .int .u8 (mark.toNat : Nat), .bool esc] w fun e w' => e = .returned (qtV s.size (qt mark esc ((bytes s).drop i))) ∧ w = w' := by
  obtain ⟨R, hR⟩ : ∃ R, R = qtV s.size (qt mark esc ((bytes s).drop i)) := ⟨_, rfl⟩
  have HR := Lib.hid hR
  rw [← hR]
  clear hR
  have HM0 := Lib.hid hm0; have HM := Lib.hid hm
  go_enter Tryd.func96, Tryd.ntmps96
  go_wp2_with fail
  go_loopw [1, 10] (fun iv ov wr => ∃ (j : Nat) (ob : ByteArray), iv = .int .i64 j ∧ ov = .string ob ∧ j ≤ s.size ∧ ob.size ≤ j ∧ qt mark esc ((bytes s).drop i) = ((qt mark esc ((bytes s).drop j)).map fun p => (bytes ob ++ p.1, p.2)) ∧ wr = w) (fun iv _ _ => s.size - (RowKit.intOf iv).toNat)
  case atStart => exact ⟨i, { data := #[] }, rfl, rfl, hi, Nat.zero_le _, by
    cases qt mark esc ((bytes s).drop i) with
    | none => rfl
    | some p => rfl, rfl⟩
  case round =>
    obtain ⟨j, ob, rfl, rfl, hj, hob, hb, rfl⟩ := hrel
    have HB := Lib.hid hb
    clear hb
    by_cases hlt : j < s.size
    · have hlt' : (j : Int) < s.size := by omega
      have hj1 : (j : Int) + 1 ≤ s.size := by omega
      have HD := Lib.hid (drop_at hlt)
      have HEX := Lib.hid (qb_one hlt)
      have hx1 := qb_size hlt
      have hcat : ¬ 9223372036854775807 < ob.size + (s.extract j (j + 1)).size := by rw [hx1]; omega
      have HAT := Lib.hid (show Calls Tryd.prog 94 #[.string s, .int .i64 ((j : Int) + 1)] wr fun e w' => e = .returned (.int .u8 ((byteAt (bytes s) (j + 1)).toNat : Nat)) ∧ wr = w' from qat_any s (j + 1) wr (by omega))
      obtain ⟨b, hbb⟩ : ∃ z, z = byteAt (bytes s) (j + 1) := ⟨_, rfl⟩
      have HBB := Lib.hid hbb
      rw [← hbb] at HAT
      obtain ⟨a, ha⟩ : ∃ z, z = s[j] := ⟨_, rfl⟩
      have HA := Lib.hid ha
      clear hbb
      by_cases hmk : a = mark
      · have t1 : ((s[j].toNat : Int) == (mark.toNat : Int)) = true := by rw [← ha, hmk]; simp
        by_cases hbm : b = mark
        · have t2 : ((b.toNat : Int) == (mark.toNat : Int)) = true := by rw [hbm]; simp
          have hnx := next_at (b := mark) HM0.out (HBB.out.symm.trans hbm)
          rw [bytes_len] at hnx
          have hlt2 : (j : Int) + 1 < s.size := by omega
          have HO2 := Lib.hid (show (bytes s).drop j = mark :: mark :: (bytes s).drop (j + 2) from by rw [HD.out, ← ha, hmk, hnx.1])
          have HSZ := Lib.hid (show (ob ++ s.extract j (j + 1)).size ≤ j + 2 from by rw [ByteArray.size_append, hx1]; omega)
          have HO := Lib.hid (show qt mark esc ((bytes s).drop i) = (qt mark esc ((bytes s).drop (j + 2))).map fun p => (bytes (ob ++ s.extract j (j + 1)) ++ p.1, p.2) from by
            rw [HB.out, HO2.out, qt_twice HM.out, Option.map_map, qb_cat, HEX.out, ← HA.out, hmk]
            congr 1
            funext p
            simp)
          clear ha hmk hbm hnx
          go_wp2_with fail
          refine HAT.out.mono ?_; rintro e w1 ⟨rfl, rfl⟩
          go_wp2_with fail
          go_roundw
          case measure => first | omega | (simp [RowKit.intOf]; omega)
          case rel => exact ⟨j + 2, ob ++ s.extract j (j + 1), by go_num, rfl, by omega, HSZ.out, HO.out, by first | rfl | trivial⟩
        · have t2 : ((b.toNat : Int) == (mark.toNat : Int)) = false := by rw [beq_eq_false_iff_ne]; intro e; exact hbm (UInt8.toNat_inj.1 (by omega))
          have HN := Lib.hid (show R = .tuple #[.string ob, .int .i64 ((j : Int) + 1)] from by
            rw [HR.out, HB.out, HD.out, ← HA.out, hmk, qt_end HM.out (next_not (fun e => hbm (HBB.out.trans e)))]
            show Value.tuple #[.string ⟨(bytes ob ++ []).toArray⟩, .int .i64 ((s.size - ((bytes s).drop (j + 1)).length : Nat) : Int)] = _
            rw [List.append_nil, List.length_drop, bytes_len, show (s.size - (s.size - (j + 1)) : Nat) = j + 1 by omega]
            rfl)
          clear ha hmk hbm
          go_wp2_with fail
          refine HAT.out.mono ?_; rintro e w1 ⟨rfl, rfl⟩
          go_wp2_with fail
          go_ret2
          exact ⟨by rw [HN.out]; rfl, rfl⟩
      · have t1 : ((s[j].toNat : Int) == (mark.toNat : Int)) = false := by rw [← ha, beq_eq_false_iff_ne]; intro e; exact hmk (UInt8.toNat_inj.1 (by omega))
        have HNM := Lib.hid (show ¬ s[j] = mark from fun e => hmk (ha.trans e))
        cases esc with
        | false =>
          have HSZ := Lib.hid (show (ob ++ s.extract j (j + 1)).size ≤ j + 1 from by rw [ByteArray.size_append, hx1]; omega)
          have HO := Lib.hid (show qt mark false ((bytes s).drop i) = (qt mark false ((bytes s).drop (j + 1))).map fun p => (bytes (ob ++ s.extract j (j + 1)) ++ p.1, p.2) from by
            rw [HB.out, HD.out, qt_plain (fun h => absurd h.1 (by decide)) HNM.out, Option.map_map, qb_cat, HEX.out]
            congr 1
            funext p
            simp)
          clear ha hmk HAT
          go_wp2_with fail
          go_roundw
          case measure => first | omega | (simp [RowKit.intOf]; omega)
          case rel => exact ⟨j + 1, ob ++ s.extract j (j + 1), by go_num, rfl, by omega, HSZ.out, HO.out, by first | rfl | trivial⟩
        | true =>
          by_cases h92 : a = 92
          · have t3 : ((s[j].toNat : Int) == 92) = true := by rw [← ha, h92]; rfl
            by_cases hl2 : j + 1 < s.size
            · have hl2' : (j : Int) + 1 < s.size := by omega
              have hl2'' : (j : Int) + 2 ≤ s.size := by omega
              obtain ⟨cb, hcb⟩ : ∃ z : ByteArray, z = s.extract (j + 1) (j + 1 + 1) := ⟨_, rfl⟩
              have HCB := Lib.hid hcb
              obtain ⟨y, hy⟩ : ∃ z, z = s[j + 1] := ⟨_, rfl⟩
              have hcy : cb.toList = [y] := by rw [Lib.toList_data, hy]; exact (congrArg bytes hcb).trans (qb_one hl2)
              have hcz : cb.size = 1 := by rw [hcb]; exact qb_size hl2
              have HO2 := Lib.hid (show (bytes s).drop j = 92 :: y :: (bytes s).drop (j + 2) from by rw [HD.out, ← ha, h92, drop_at hl2, hy])
              have HCY := Lib.hid hcy
              have HGO := Lib.hid (show ∀ xb : ByteArray, bytes xb = [escd y] → xb.size = 1 → (ob ++ xb).size ≤ j + 2 ∧ qt mark true ((bytes s).drop i) = (qt mark true ((bytes s).drop (j + 2))).map fun p => (bytes (ob ++ xb) ++ p.1, p.2) from fun xb hxb hxz => by
                refine ⟨by rw [ByteArray.size_append, hxz]; omega, ?_⟩
                rw [HB.out, HO2.out, qt_esc, Option.map_map, qb_cat, hxb]
                congr 1
                funext p
                simp)
              clear ha hmk h92 hcy hy HAT hcat hx1
              by_cases y110 : y = 110
              · have e110 : (cb.toList == [110]) = true := by rw [HCY.out, y110]; rfl
                obtain ⟨hsz, ho⟩ := HGO.out ⟨#[10]⟩ (by rw [y110]; rfl) rfl
                have HSZ := Lib.hid hsz; have HO := Lib.hid ho
                have hcat : ¬ 9223372036854775807 < ob.size + 1 := by omega
                clear hsz ho hcb  y110
                go_upto_region 10 with (fail)
                rw [← HCB.out]
                go_wp2_with fail
                go_roundw
                case measure => first | omega | (simp [RowKit.intOf]; omega)
                case rel => exact ⟨j + 2, ob ++ ⟨#[10]⟩, by go_num, rfl, by omega, HSZ.out, HO.out, by first | rfl | trivial⟩
              by_cases y116 : y = 116
              · have e116 : (cb.toList == [116]) = true := by rw [HCY.out, y116]; rfl
                have e110 : (cb.toList == [110]) = false := by rw [HCY.out, beq_eq_false_iff_ne]; intro e; exact y110 (List.cons.inj e).1
                obtain ⟨hsz, ho⟩ := HGO.out ⟨#[9]⟩ (by rw [y116]; rfl) rfl
                have HSZ := Lib.hid hsz; have HO := Lib.hid ho
                have hcat : ¬ 9223372036854775807 < ob.size + 1 := by omega
                clear hsz ho hcb y110 y116
                go_upto_region 10 with (fail)
                rw [← HCB.out]
                go_wp2_with fail
                go_roundw
                case measure => first | omega | (simp [RowKit.intOf]; omega)
                case rel => exact ⟨j + 2, ob ++ ⟨#[9]⟩, by go_num, rfl, by omega, HSZ.out, HO.out, by first | rfl | trivial⟩
              by_cases y114 : y = 114
              · have e114 : (cb.toList == [114]) = true := by rw [HCY.out, y114]; rfl
                have e110 : (cb.toList == [110]) = false := by rw [HCY.out, beq_eq_false_iff_ne]; intro e; exact y110 (List.cons.inj e).1
                have e116 : (cb.toList == [116]) = false := by rw [HCY.out, beq_eq_false_iff_ne]; intro e; exact y116 (List.cons.inj e).1
                obtain ⟨hsz, ho⟩ := HGO.out ⟨#[13]⟩ (by rw [y114]; rfl) rfl
                have HSZ := Lib.hid hsz; have HO := Lib.hid ho
                have hcat : ¬ 9223372036854775807 < ob.size + 1 := by omega
                clear hsz ho hcb y110 y116 y114
                go_upto_region 10 with (fail)
                rw [← HCB.out]
                go_wp2_with fail
                go_roundw
                case measure => first | omega | (simp [RowKit.intOf]; omega)
                case rel => exact ⟨j + 2, ob ++ ⟨#[13]⟩, by go_num, rfl, by omega, HSZ.out, HO.out, by first | rfl | trivial⟩
              have e110 : (cb.toList == [110]) = false := by rw [HCY.out, beq_eq_false_iff_ne]; intro e; exact y110 (List.cons.inj e).1
              have e116 : (cb.toList == [116]) = false := by rw [HCY.out, beq_eq_false_iff_ne]; intro e; exact y116 (List.cons.inj e).1
              have e114 : (cb.toList == [114]) = false := by rw [HCY.out, beq_eq_false_iff_ne]; intro e; exact y114 (List.cons.inj e).1
              obtain ⟨hsz, ho⟩ := HGO.out cb (by rw [show bytes cb = cb.toList from (Lib.toList_data cb).symm, HCY.out]; unfold escd; rw [if_neg y110, if_neg y116, if_neg y114]) hcz
              have HSZ := Lib.hid hsz; have HO := Lib.hid ho
              have hcat : ¬ 9223372036854775807 < ob.size + cb.size := by omega
              clear hsz ho hcb y110 y116 y114
              go_upto_region 10 with (fail)
              rw [← HCB.out]
              go_wp2_with fail
              go_roundw
              case measure => first | omega | (simp [RowKit.intOf]; omega)
              case rel => exact ⟨j + 2, ob ++ cb, by go_num, rfl, by omega, HSZ.out, HO.out, by first | rfl | trivial⟩
            · have hl2' : ¬ (j : Int) + 1 < s.size := by omega
              have HSZ := Lib.hid (show (ob ++ s.extract j (j + 1)).size ≤ j + 1 from by rw [ByteArray.size_append, hx1]; omega)
              have HO := Lib.hid (show qt mark true ((bytes s).drop i) = (qt mark true ((bytes s).drop (j + 1))).map fun p => (bytes (ob ++ s.extract j (j + 1)) ++ p.1, p.2) from by
                rw [HB.out, HD.out, ← HA.out, h92, List.drop_eq_nil_of_le (by rw [bytes_len]; omega), qt_esc_end, qt_noneQ]; rfl)
              clear ha hmk h92 HAT hl2
              go_wp2_with fail
              go_roundw
              case measure => first | omega | (simp [RowKit.intOf]; omega)
              case rel => exact ⟨j + 1, ob ++ s.extract j (j + 1), by go_num, rfl, by omega, HSZ.out, HO.out, by first | rfl | trivial⟩
          · have t3 : ((s[j].toNat : Int) == 92) = false := by rw [← ha, beq_eq_false_iff_ne]; intro e; exact h92 (UInt8.toNat_inj.1 (by show a.toNat = 92; omega))
            have HSZ := Lib.hid (show (ob ++ s.extract j (j + 1)).size ≤ j + 1 from by rw [ByteArray.size_append, hx1]; omega)
            have HO := Lib.hid (show qt mark true ((bytes s).drop i) = (qt mark true ((bytes s).drop (j + 1))).map fun p => (bytes (ob ++ s.extract j (j + 1)) ++ p.1, p.2) from by
              rw [HB.out, HD.out, qt_plain (fun h => h92 (HA.out.trans h.2)) HNM.out, Option.map_map, qb_cat, HEX.out]
              congr 1
              funext p
              simp)
            clear ha hmk h92 HAT
            go_wp2_with fail
            go_roundw
            case measure => first | omega | (simp [RowKit.intOf]; omega)
            case rel => exact ⟨j + 1, ob ++ s.extract j (j + 1), by go_num, rfl, by omega, HSZ.out, HO.out, by first | rfl | trivial⟩
    · have hge : ¬ (j : Int) < s.size := by omega
      have HN := Lib.hid (show R = .tuple #[.string { data := #[] }, .int .i64 (-1)] from by
        rw [HR.out, HB.out, List.drop_eq_nil_of_le (by rw [bytes_len]; omega), qt_noneQ]; rfl)
      go_wp2_with fail
      go_ret2
      exact ⟨by rw [HN.out]; rfl, rfl⟩
end Go.Proofs.YtgopajddloeclaaDoor
