/- What is a name: NamesParts answers true, whatever two texts it is called with, and leaves what was there as it was. (Over the listed variables, tied to the program's text.) -/
import Derived.Test.YtalnflfafapicaaDoorNCard
import Derived.Test.YtalnflfafapicaaDoorNNameM
namespace Go.Proofs.YtalnflfafapicaaDoor
open Go.RowKit Go.Lib Go.WideShapes Go.ChangeShapes Go.ChangeAt Go.Joins

theorem nb_cat (a b : ByteArray) : bytes (a ++ b) = bytes a ++ bytes b := by simp [bytes]

section
variable {a b : ByteArray} (HA : (46 : UInt8) ∉ bytes a) (HB : (46 : UInt8) ∉ bytes b)
include HA
theorem parts_a : goodB (bytes a) = (decide (a.size ≤ 63) && partB (bytes a)) := by rw [goodB_one HA, bytes_len]
theorem parts_ab : goodB (bytes (a ++ { data := #[46] } ++ b)) = (decide (a.size + b.size ≤ 62) && (partB (bytes a) && partB (bytes b))) := by
  rw [nb_cat, nb_cat, show bytes { data := #[46] } = [46] from rfl, show bytes a ++ [46] ++ bytes b = bytes a ++ 46 :: bytes b by simp, goodB_two HA, bytes_len, bytes_len]
theorem parts_abx : goodB (bytes (a ++ { data := #[46] } ++ b ++ { data := #[46, 120] })) = false := by
  rw [nb_cat, nb_cat, nb_cat, show bytes { data := #[46] } = [46] from rfl, show bytes { data := #[46, 120] } = [46, 120] from rfl, show bytes a ++ [46] ++ bytes b ++ [46, 120] = bytes a ++ 46 :: (bytes b ++ [46, 120]) by simp, goodB_two HA, partB_dot (bytes b ++ [46, 120]) (by simp)]
  simp
include HB
theorem parts_mid (c : UInt8) (hc : c ≠ 46) (h1 : lowB c = false) (h2 : digB c = false) : goodB (bytes (a ++ { data := #[c] } ++ b)) = false := by
  rw [nb_cat, nb_cat, show bytes { data := #[c] } = [c] from rfl, goodB_one (by simp [HA, HB]; exact fun e => hc e.symm), partB_no _ c (by simp) h1 h2]
  simp
end

theorem part_doubled {l : Bs} (h : partB l = true) (c : UInt8) (h1 : lowB c = false) (h2 : digB c = false) : quoted c l = c :: (l ++ [c]) := by
  unfold quoted
  rw [doubled_none c l (List.count_eq_zero.2 fun hc => by rcases partB_mem h c hc with e | e; rw [h1] at e; cases e; rw [h2] at e; cases e)]
theorem quoted_str (c : UInt8) (a : ByteArray) : (⟨(c :: (bytes a ++ [c])).toArray⟩ : ByteArray) = { data := #[c] } ++ a ++ { data := #[c] } := by
  apply ByteArray.ext
  simp [bytes]
theorem quoted_ne (c : UInt8) (a : ByteArray) : (({ data := #[c] } ++ a ++ { data := #[c] } : ByteArray).toList == a.toList) = false := by
  rw [← Bool.not_eq_true]
  intro h
  have h := congrArg List.length (show ({ data := #[c] } ++ a ++ { data := #[c] } : ByteArray).toList = a.toList by simpa using h)
  rw [Lib.toList_data, Lib.toList_data] at h
  simp at h
  omega

set_option maxRecDepth 100000 in
set_option maxHeartbeats 8000000 in
theorem parts_ok (a b : ByteArray) (m : Int) (w : World) (ha : a.size ≤ 140737488351232) (hb : b.size ≤ 140737488351232) (hm : w.cell? ⟨1, 0, none⟩ = some (.int .i64 m)) (hT : TakenAt w) :
    Calls Tryd.prog 6 #[.string a, .string b] w fun e w' => e = .returned (.bool true) ∧ Below w.heap.size w w' := by
  have HM := Lib.hid hm
  have HW0 := Lib.hid (World.block_lt_of_cell? w ⟨1, 0, none⟩ hm)
  have HT := Lib.hid hT
  have HSH := Lib.hid (shown7_true m w hm hT)
  have HG := Lib.hid (fun (S : ByteArray) (W : World) h1 h2 => good_any S m W h1 h2)
  have HI := Lib.hid (fun (S : ByteArray) (W : World) h1 h2 h3 => ident_any S m W h1 h2 h3)
  have HL := Lib.hid (fun (S : ByteArray) (W : World) h1 h2 => literal_any S m W h1 h2)
  clear hm hT
  by_cases hl : (a.size : Int) + b.size ≤ 300
  · go_enter Tryd.func6, Tryd.ntmps6
    go_wp2_with fail
    refine HSH.out.mono ?_; rintro e w1 ⟨rfl, hb1⟩
    have HB1 := Lib.hid hb1
    clear hb1 HSH
    go_wp2_with fail
    go_loopg [6] (a.size + b.size) (fun g v wr => ∃ k : Nat, v = .int .i64 k ∧ k ≤ a.size + b.size ∧ g = a.size + b.size - k ∧ wr = w1 ∧ ∀ i : Nat, i < k → (bytes (a ++ b))[i]? ≠ some 46)
    case atStart => exact ⟨0, rfl, Nat.zero_le _, rfl, rfl, fun i h => absurd h (Nat.not_lt_zero _)⟩
    case round =>
      obtain ⟨k, rfl, hk, hg, rfl, ho⟩ := hrel
      have HO := Lib.hid ho; have HGK := Lib.hid hg
      clear ho hg
      by_cases hlt : k < a.size + b.size
      · have hlt' : (k : Int) < (a.size : Int) + b.size := by omega
        have hks : k < (a ++ b).size := by rw [ByteArray.size_append]; exact hlt
        have hgx : (bytes (a ++ b))[k]? = some (a ++ b)[k] := by
          rw [List.getElem?_eq_getElem (by rw [bytes_len]; exact hks)]; rfl
        by_cases hc : (a ++ b)[k] = 46
        · have hc2 : (((a ++ b)[k].toNat : Int) == 46) = true := by rw [hc]; rfl
          clear hc hgx
          go_wp2_with fail
          go_ret
          exact ⟨rfl, HB1.out⟩
        · have hc2 : (((a ++ b)[k].toNat : Int) == 46) = false := by
            rw [beq_eq_false_iff_ne]
            intro e
            exact hc (UInt8.toNat_inj.1 (show (a ++ b)[k].toNat = (46 : UInt8).toNat from by have : ((46 : UInt8).toNat : Int) = 46 := rfl; omega))
          have HN := Lib.hid (show ∀ i : Nat, i < k + 1 → (bytes (a ++ b))[i]? ≠ some 46 from fun i hi => by
            rcases Nat.lt_succ_iff_lt_or_eq.1 hi with h | rfl
            · exact HO.out i h
            · rw [hgx]; exact fun e => hc (Option.some.inj e))
          clear hc hgx
          go_wp2_with fail
          go_roundg (a.size + b.size - (k + 1))
          case measure => have := HGK.out; omega
          case rel => exact ⟨k + 1, by go_num, by omega, rfl, rfl, HN.out⟩
      · obtain rfl : k = a.size + b.size := by omega
        have hno : (46 : UInt8) ∉ bytes (a ++ b) := fun hm => by
          obtain ⟨i, hi, he⟩ := List.mem_iff_getElem.1 hm
          exact HO.out i (by rw [bytes_len, ByteArray.size_append] at hi; exact hi) (by rw [List.getElem?_eq_getElem hi, he])
        rw [nb_cat, List.mem_append, not_or] at hno
        have HNA := Lib.hid hno.1; have HNB := Lib.hid hno.2
        clear hno HO HGK
        have HM1 := Lib.hid ((HB1.out.cell (p := ⟨1, 0, none⟩) HW0.out).trans HM.out)
        have HGA := Lib.hid (parts_a HNA.out)
        have HGB := Lib.hid (parts_a HNB.out)
        have HG2 := Lib.hid (parts_ab (b := b) HNA.out)
        have HG5 := Lib.hid (parts_abx (b := b) HNA.out)
        have HG3 := Lib.hid (parts_mid HNA.out HNB.out 32 (by decide) (by decide) (by decide))
        have HG4 := Lib.hid (parts_mid HNA.out HNB.out 34 (by decide) (by decide) (by decide))
        have hsn : (a.size : Int) + b.size ≤ 300 := by omega
        cases hpa : partB (bytes a) with
        | false =>
          go_wp2_with fail
          refine (HG.out a wr (by omega) HM1.out).mono ?_; rintro e w2 ⟨rfl, hb2⟩
          rw [HGA.out, hpa, Bool.and_false]
          have HB2 := Lib.hid (HB1.out.step (below_drew hb2) HB1.out.size)
          have HM2 := Lib.hid ((HB2.out.cell (p := ⟨1, 0, none⟩) HW0.out).trans HM.out)
          clear hb2 HM1 HB1
          go_wp2_with fail
          refine (HG.out _ w2 (by simp only [ByteArray.size_append]; show a.size + 1 + b.size ≤ 100000; omega) HM2.out).mono ?_; rintro e w3 ⟨rfl, hb3⟩
          rw [HG2.out, hpa, show (decide (a.size + b.size ≤ 62) && (false && partB (bytes b))) = false by simp]
          have HB3 := Lib.hid (HB2.out.step (below_drew hb3) HB2.out.size)
          have HM3 := Lib.hid ((HB3.out.cell (p := ⟨1, 0, none⟩) HW0.out).trans HM.out)
          clear hb3 HM2 HB2
          go_wp2_with fail
          refine (HG.out _ w3 (by simp only [ByteArray.size_append]; show a.size + 1 + b.size ≤ 100000; omega) HM3.out).mono ?_; rintro e w4 ⟨rfl, hb4⟩
          rw [HG3.out]
          have HB4 := Lib.hid (HB3.out.step (below_drew hb4) HB3.out.size)
          have HM4 := Lib.hid ((HB4.out.cell (p := ⟨1, 0, none⟩) HW0.out).trans HM.out)
          clear hb4 HM3 HB3
          go_wp2_with fail
          refine (HG.out _ w4 (by simp only [ByteArray.size_append]; show a.size + 1 + b.size ≤ 100000; omega) HM4.out).mono ?_; rintro e w5 ⟨rfl, hb5⟩
          rw [HG4.out]
          have HB5 := Lib.hid (HB4.out.step (below_drew hb5) HB4.out.size)
          have HM5 := Lib.hid ((HB5.out.cell (p := ⟨1, 0, none⟩) HW0.out).trans HM.out)
          clear hb5 HM4 HB4
          go_wp2_with fail
          refine (HG.out _ w5 (by simp only [ByteArray.size_append]; show a.size + 1 + b.size + 2 ≤ 100000; omega) HM5.out).mono ?_; rintro e w6 ⟨rfl, hb6⟩
          rw [HG5.out]
          have HB6 := Lib.hid (HB5.out.step (below_drew hb6) HB5.out.size)
          have HM6 := Lib.hid ((HB6.out.cell (p := ⟨1, 0, none⟩) HW0.out).trans HM.out)
          clear hb6 HM5 HB5
          go_wp2_with fail
          refine (HG.out a w6 (by omega) HM6.out).mono ?_; rintro e w7 ⟨rfl, hb7⟩
          rw [HGA.out, hpa, Bool.and_false]
          have HB7 := Lib.hid (HB6.out.step (below_drew hb7) HB6.out.size)
          have HM7 := Lib.hid ((HB7.out.cell (p := ⟨1, 0, none⟩) HW0.out).trans HM.out)
          clear hb7 HM6 HB6
          go_wp2_with fail
          go_ret
          exact ⟨rfl, HB7.out⟩
        | true =>
          by_cases h1 : a.size ≤ 63
          · cases hpb : partB (bytes b) with
            | false =>
              cases htk : takenB (bytes a) with
              | true =>
                go_wp2_with fail
                refine (HG.out a wr (by omega) HM1.out).mono ?_; rintro e w2 ⟨rfl, hb2⟩
                rw [HGA.out, decide_eq_true (show a.size ≤ 63 by omega), hpa, Bool.and_self]
                have HB2 := Lib.hid (HB1.out.step (below_drew hb2) HB1.out.size)
                have HM2 := Lib.hid ((HB2.out.cell (p := ⟨1, 0, none⟩) HW0.out).trans HM.out)
                clear hb2 HM1 HB1
                go_wp2_with fail
                refine (HG.out b w2 (by omega) HM2.out).mono ?_; rintro e w3 ⟨rfl, hb3⟩
                rw [HGB.out, hpb, Bool.and_false]
                have HB3 := Lib.hid (HB2.out.step (below_drew hb3) HB2.out.size)
                have HM3 := Lib.hid ((HB3.out.cell (p := ⟨1, 0, none⟩) HW0.out).trans HM.out)
                clear hb3 HM2 HB2
                go_wp2_with fail
                refine (HG.out _ w3 (by simp only [ByteArray.size_append]; show a.size + 1 + b.size ≤ 100000; omega) HM3.out).mono ?_; rintro e w4 ⟨rfl, hb4⟩
                rw [HG2.out, hpa, hpb, show (decide (a.size + b.size ≤ 62) && (true && false)) = false by simp]
                have HB4 := Lib.hid (HB3.out.step (below_drew hb4) HB3.out.size)
                have HM4 := Lib.hid ((HB4.out.cell (p := ⟨1, 0, none⟩) HW0.out).trans HM.out)
                clear hb4 HM3 HB3
                go_wp2_with fail
                refine (HG.out _ w4 (by simp only [ByteArray.size_append]; show a.size + 1 + b.size ≤ 100000; omega) HM4.out).mono ?_; rintro e w5 ⟨rfl, hb5⟩
                rw [HG3.out]
                have HB5 := Lib.hid (HB4.out.step (below_drew hb5) HB4.out.size)
                have HM5 := Lib.hid ((HB5.out.cell (p := ⟨1, 0, none⟩) HW0.out).trans HM.out)
                clear hb5 HM4 HB4
                go_wp2_with fail
                refine (HG.out _ w5 (by simp only [ByteArray.size_append]; show a.size + 1 + b.size ≤ 100000; omega) HM5.out).mono ?_; rintro e w6 ⟨rfl, hb6⟩
                rw [HG4.out]
                have HB6 := Lib.hid (HB5.out.step (below_drew hb6) HB5.out.size)
                have HM6 := Lib.hid ((HB6.out.cell (p := ⟨1, 0, none⟩) HW0.out).trans HM.out)
                clear hb6 HM5 HB5
                go_wp2_with fail
                refine (HG.out _ w6 (by simp only [ByteArray.size_append]; show a.size + 1 + b.size + 2 ≤ 100000; omega) HM6.out).mono ?_; rintro e w7 ⟨rfl, hb7⟩
                rw [HG5.out]
                have HB7 := Lib.hid (HB6.out.step (below_drew hb7) HB6.out.size)
                have HM7 := Lib.hid ((HB7.out.cell (p := ⟨1, 0, none⟩) HW0.out).trans HM.out)
                clear hb7 HM6 HB6
                go_wp2_with fail
                refine (HG.out a w7 (by omega) HM7.out).mono ?_; rintro e w8 ⟨rfl, hb8⟩
                rw [HGA.out, decide_eq_true (show a.size ≤ 63 by omega), hpa, Bool.and_self]
                have HB8 := Lib.hid (HB7.out.step (below_drew hb8) HB7.out.size)
                have HM8 := Lib.hid ((HB8.out.cell (p := ⟨1, 0, none⟩) HW0.out).trans HM.out)
                clear hb8 HM7 HB7
                go_wp2_with fail
                refine (HI.out a w8 (by omega) HM8.out (HT.out.below HB8.out)).mono ?_; rintro e w9 ⟨rfl, hb9⟩
                rw [show identB (bytes a) = 34 :: (bytes a ++ [34]) by unfold identB; rw [hpa, htk]; exact part_doubled hpa 34 (by decide) (by decide), quoted_str]
                have HB9 := Lib.hid (HB8.out.step hb9 HB8.out.size)
                have HM9 := Lib.hid ((HB9.out.cell (p := ⟨1, 0, none⟩) HW0.out).trans HM.out)
                clear hb9 HM8 HB8
                have hne := quoted_ne 34 a
                go_wp2_with fail
                refine (HI.out a w9 (by omega) HM9.out (HT.out.below HB9.out)).mono ?_; rintro e w10 ⟨rfl, hb10⟩
                rw [show identB (bytes a) = 34 :: (bytes a ++ [34]) by unfold identB; rw [hpa, htk]; exact part_doubled hpa 34 (by decide) (by decide), quoted_str]
                have HB10 := Lib.hid (HB9.out.step hb10 HB9.out.size)
                have HM10 := Lib.hid ((HB10.out.cell (p := ⟨1, 0, none⟩) HW0.out).trans HM.out)
                clear hb10 HM9 HB9
                go_wp2_with fail
                refine (HL.out a w10 (by omega) HM10.out).mono ?_; rintro e w11 ⟨rfl, hb11⟩
                rw [part_doubled hpa 39 (by decide) (by decide), quoted_str]
                have HB11 := Lib.hid (HB10.out.step hb11 HB10.out.size)
                have HM11 := Lib.hid ((HB11.out.cell (p := ⟨1, 0, none⟩) HW0.out).trans HM.out)
                clear hb11 HM10 HB10
                go_wp2_with fail
                go_ret
                exact ⟨rfl, HB11.out⟩
              | false =>
                go_wp2_with fail
                refine (HG.out a wr (by omega) HM1.out).mono ?_; rintro e w2 ⟨rfl, hb2⟩
                rw [HGA.out, decide_eq_true (show a.size ≤ 63 by omega), hpa, Bool.and_self]
                have HB2 := Lib.hid (HB1.out.step (below_drew hb2) HB1.out.size)
                have HM2 := Lib.hid ((HB2.out.cell (p := ⟨1, 0, none⟩) HW0.out).trans HM.out)
                clear hb2 HM1 HB1
                go_wp2_with fail
                refine (HG.out b w2 (by omega) HM2.out).mono ?_; rintro e w3 ⟨rfl, hb3⟩
                rw [HGB.out, hpb, Bool.and_false]
                have HB3 := Lib.hid (HB2.out.step (below_drew hb3) HB2.out.size)
                have HM3 := Lib.hid ((HB3.out.cell (p := ⟨1, 0, none⟩) HW0.out).trans HM.out)
                clear hb3 HM2 HB2
                go_wp2_with fail
                refine (HG.out _ w3 (by simp only [ByteArray.size_append]; show a.size + 1 + b.size ≤ 100000; omega) HM3.out).mono ?_; rintro e w4 ⟨rfl, hb4⟩
                rw [HG2.out, hpa, hpb, show (decide (a.size + b.size ≤ 62) && (true && false)) = false by simp]
                have HB4 := Lib.hid (HB3.out.step (below_drew hb4) HB3.out.size)
                have HM4 := Lib.hid ((HB4.out.cell (p := ⟨1, 0, none⟩) HW0.out).trans HM.out)
                clear hb4 HM3 HB3
                go_wp2_with fail
                refine (HG.out _ w4 (by simp only [ByteArray.size_append]; show a.size + 1 + b.size ≤ 100000; omega) HM4.out).mono ?_; rintro e w5 ⟨rfl, hb5⟩
                rw [HG3.out]
                have HB5 := Lib.hid (HB4.out.step (below_drew hb5) HB4.out.size)
                have HM5 := Lib.hid ((HB5.out.cell (p := ⟨1, 0, none⟩) HW0.out).trans HM.out)
                clear hb5 HM4 HB4
                go_wp2_with fail
                refine (HG.out _ w5 (by simp only [ByteArray.size_append]; show a.size + 1 + b.size ≤ 100000; omega) HM5.out).mono ?_; rintro e w6 ⟨rfl, hb6⟩
                rw [HG4.out]
                have HB6 := Lib.hid (HB5.out.step (below_drew hb6) HB5.out.size)
                have HM6 := Lib.hid ((HB6.out.cell (p := ⟨1, 0, none⟩) HW0.out).trans HM.out)
                clear hb6 HM5 HB5
                go_wp2_with fail
                refine (HG.out _ w6 (by simp only [ByteArray.size_append]; show a.size + 1 + b.size + 2 ≤ 100000; omega) HM6.out).mono ?_; rintro e w7 ⟨rfl, hb7⟩
                rw [HG5.out]
                have HB7 := Lib.hid (HB6.out.step (below_drew hb7) HB6.out.size)
                have HM7 := Lib.hid ((HB7.out.cell (p := ⟨1, 0, none⟩) HW0.out).trans HM.out)
                clear hb7 HM6 HB6
                go_wp2_with fail
                refine (HG.out a w7 (by omega) HM7.out).mono ?_; rintro e w8 ⟨rfl, hb8⟩
                rw [HGA.out, decide_eq_true (show a.size ≤ 63 by omega), hpa, Bool.and_self]
                have HB8 := Lib.hid (HB7.out.step (below_drew hb8) HB7.out.size)
                have HM8 := Lib.hid ((HB8.out.cell (p := ⟨1, 0, none⟩) HW0.out).trans HM.out)
                clear hb8 HM7 HB7
                go_wp2_with fail
                refine (HI.out a w8 (by omega) HM8.out (HT.out.below HB8.out)).mono ?_; rintro e w9 ⟨rfl, hb9⟩
                rw [show (⟨(identB (bytes a)).toArray⟩ : ByteArray) = a by rw [show identB (bytes a) = bytes a by unfold identB; rw [hpa, htk]; rfl]]
                have HB9 := Lib.hid (HB8.out.step hb9 HB8.out.size)
                have HM9 := Lib.hid ((HB9.out.cell (p := ⟨1, 0, none⟩) HW0.out).trans HM.out)
                clear hb9 HM8 HB8
                go_wp2_with fail
                refine (HL.out a w9 (by omega) HM9.out).mono ?_; rintro e w10 ⟨rfl, hb10⟩
                rw [part_doubled hpa 39 (by decide) (by decide), quoted_str]
                have HB10 := Lib.hid (HB9.out.step hb10 HB9.out.size)
                have HM10 := Lib.hid ((HB10.out.cell (p := ⟨1, 0, none⟩) HW0.out).trans HM.out)
                clear hb10 HM9 HB9
                go_wp2_with fail
                go_ret
                exact ⟨rfl, HB10.out⟩
            | true =>
              by_cases h2 : b.size ≤ 63
              · by_cases h3 : a.size + b.size ≤ 62
                · have h4 : (a.size : Int) + b.size < 63 := by omega
                  cases htk : takenB (bytes a) with
                  | true =>
                    go_wp2_with fail
                    refine (HG.out a wr (by omega) HM1.out).mono ?_; rintro e w2 ⟨rfl, hb2⟩
                    rw [HGA.out, decide_eq_true (show a.size ≤ 63 by omega), hpa, Bool.and_self]
                    have HB2 := Lib.hid (HB1.out.step (below_drew hb2) HB1.out.size)
                    have HM2 := Lib.hid ((HB2.out.cell (p := ⟨1, 0, none⟩) HW0.out).trans HM.out)
                    clear hb2 HM1 HB1
                    go_wp2_with fail
                    refine (HG.out b w2 (by omega) HM2.out).mono ?_; rintro e w3 ⟨rfl, hb3⟩
                    rw [HGB.out, decide_eq_true (show b.size ≤ 63 by omega), hpb, Bool.and_self]
                    have HB3 := Lib.hid (HB2.out.step (below_drew hb3) HB2.out.size)
                    have HM3 := Lib.hid ((HB3.out.cell (p := ⟨1, 0, none⟩) HW0.out).trans HM.out)
                    clear hb3 HM2 HB2
                    go_wp2_with fail
                    refine (HG.out _ w3 (by simp only [ByteArray.size_append]; show a.size + 1 + b.size ≤ 100000; omega) HM3.out).mono ?_; rintro e w4 ⟨rfl, hb4⟩
                    rw [HG2.out, hpa, hpb, decide_eq_true (show a.size + b.size ≤ 62 by omega), show (true && (true && true)) = true from rfl]
                    have HB4 := Lib.hid (HB3.out.step (below_drew hb4) HB3.out.size)
                    have HM4 := Lib.hid ((HB4.out.cell (p := ⟨1, 0, none⟩) HW0.out).trans HM.out)
                    clear hb4 HM3 HB3
                    go_wp2_with fail
                    refine (HG.out _ w4 (by simp only [ByteArray.size_append]; show a.size + 1 + b.size ≤ 100000; omega) HM4.out).mono ?_; rintro e w5 ⟨rfl, hb5⟩
                    rw [HG3.out]
                    have HB5 := Lib.hid (HB4.out.step (below_drew hb5) HB4.out.size)
                    have HM5 := Lib.hid ((HB5.out.cell (p := ⟨1, 0, none⟩) HW0.out).trans HM.out)
                    clear hb5 HM4 HB4
                    go_wp2_with fail
                    refine (HG.out _ w5 (by simp only [ByteArray.size_append]; show a.size + 1 + b.size ≤ 100000; omega) HM5.out).mono ?_; rintro e w6 ⟨rfl, hb6⟩
                    rw [HG4.out]
                    have HB6 := Lib.hid (HB5.out.step (below_drew hb6) HB5.out.size)
                    have HM6 := Lib.hid ((HB6.out.cell (p := ⟨1, 0, none⟩) HW0.out).trans HM.out)
                    clear hb6 HM5 HB5
                    go_wp2_with fail
                    refine (HG.out _ w6 (by simp only [ByteArray.size_append]; show a.size + 1 + b.size + 2 ≤ 100000; omega) HM6.out).mono ?_; rintro e w7 ⟨rfl, hb7⟩
                    rw [HG5.out]
                    have HB7 := Lib.hid (HB6.out.step (below_drew hb7) HB6.out.size)
                    have HM7 := Lib.hid ((HB7.out.cell (p := ⟨1, 0, none⟩) HW0.out).trans HM.out)
                    clear hb7 HM6 HB6
                    go_wp2_with fail
                    refine (HG.out a w7 (by omega) HM7.out).mono ?_; rintro e w8 ⟨rfl, hb8⟩
                    rw [HGA.out, decide_eq_true (show a.size ≤ 63 by omega), hpa, Bool.and_self]
                    have HB8 := Lib.hid (HB7.out.step (below_drew hb8) HB7.out.size)
                    have HM8 := Lib.hid ((HB8.out.cell (p := ⟨1, 0, none⟩) HW0.out).trans HM.out)
                    clear hb8 HM7 HB7
                    go_wp2_with fail
                    refine (HI.out a w8 (by omega) HM8.out (HT.out.below HB8.out)).mono ?_; rintro e w9 ⟨rfl, hb9⟩
                    rw [show identB (bytes a) = 34 :: (bytes a ++ [34]) by unfold identB; rw [hpa, htk]; exact part_doubled hpa 34 (by decide) (by decide), quoted_str]
                    have HB9 := Lib.hid (HB8.out.step hb9 HB8.out.size)
                    have HM9 := Lib.hid ((HB9.out.cell (p := ⟨1, 0, none⟩) HW0.out).trans HM.out)
                    clear hb9 HM8 HB8
                    have hne := quoted_ne 34 a
                    go_wp2_with fail
                    refine (HI.out a w9 (by omega) HM9.out (HT.out.below HB9.out)).mono ?_; rintro e w10 ⟨rfl, hb10⟩
                    rw [show identB (bytes a) = 34 :: (bytes a ++ [34]) by unfold identB; rw [hpa, htk]; exact part_doubled hpa 34 (by decide) (by decide), quoted_str]
                    have HB10 := Lib.hid (HB9.out.step hb10 HB9.out.size)
                    have HM10 := Lib.hid ((HB10.out.cell (p := ⟨1, 0, none⟩) HW0.out).trans HM.out)
                    clear hb10 HM9 HB9
                    go_wp2_with fail
                    refine (HL.out a w10 (by omega) HM10.out).mono ?_; rintro e w11 ⟨rfl, hb11⟩
                    rw [part_doubled hpa 39 (by decide) (by decide), quoted_str]
                    have HB11 := Lib.hid (HB10.out.step hb11 HB10.out.size)
                    have HM11 := Lib.hid ((HB11.out.cell (p := ⟨1, 0, none⟩) HW0.out).trans HM.out)
                    clear hb11 HM10 HB10
                    go_wp2_with fail
                    go_ret
                    exact ⟨rfl, HB11.out⟩
                  | false =>
                    go_wp2_with fail
                    refine (HG.out a wr (by omega) HM1.out).mono ?_; rintro e w2 ⟨rfl, hb2⟩
                    rw [HGA.out, decide_eq_true (show a.size ≤ 63 by omega), hpa, Bool.and_self]
                    have HB2 := Lib.hid (HB1.out.step (below_drew hb2) HB1.out.size)
                    have HM2 := Lib.hid ((HB2.out.cell (p := ⟨1, 0, none⟩) HW0.out).trans HM.out)
                    clear hb2 HM1 HB1
                    go_wp2_with fail
                    refine (HG.out b w2 (by omega) HM2.out).mono ?_; rintro e w3 ⟨rfl, hb3⟩
                    rw [HGB.out, decide_eq_true (show b.size ≤ 63 by omega), hpb, Bool.and_self]
                    have HB3 := Lib.hid (HB2.out.step (below_drew hb3) HB2.out.size)
                    have HM3 := Lib.hid ((HB3.out.cell (p := ⟨1, 0, none⟩) HW0.out).trans HM.out)
                    clear hb3 HM2 HB2
                    go_wp2_with fail
                    refine (HG.out _ w3 (by simp only [ByteArray.size_append]; show a.size + 1 + b.size ≤ 100000; omega) HM3.out).mono ?_; rintro e w4 ⟨rfl, hb4⟩
                    rw [HG2.out, hpa, hpb, decide_eq_true (show a.size + b.size ≤ 62 by omega), show (true && (true && true)) = true from rfl]
                    have HB4 := Lib.hid (HB3.out.step (below_drew hb4) HB3.out.size)
                    have HM4 := Lib.hid ((HB4.out.cell (p := ⟨1, 0, none⟩) HW0.out).trans HM.out)
                    clear hb4 HM3 HB3
                    go_wp2_with fail
                    refine (HG.out _ w4 (by simp only [ByteArray.size_append]; show a.size + 1 + b.size ≤ 100000; omega) HM4.out).mono ?_; rintro e w5 ⟨rfl, hb5⟩
                    rw [HG3.out]
                    have HB5 := Lib.hid (HB4.out.step (below_drew hb5) HB4.out.size)
                    have HM5 := Lib.hid ((HB5.out.cell (p := ⟨1, 0, none⟩) HW0.out).trans HM.out)
                    clear hb5 HM4 HB4
                    go_wp2_with fail
                    refine (HG.out _ w5 (by simp only [ByteArray.size_append]; show a.size + 1 + b.size ≤ 100000; omega) HM5.out).mono ?_; rintro e w6 ⟨rfl, hb6⟩
                    rw [HG4.out]
                    have HB6 := Lib.hid (HB5.out.step (below_drew hb6) HB5.out.size)
                    have HM6 := Lib.hid ((HB6.out.cell (p := ⟨1, 0, none⟩) HW0.out).trans HM.out)
                    clear hb6 HM5 HB5
                    go_wp2_with fail
                    refine (HG.out _ w6 (by simp only [ByteArray.size_append]; show a.size + 1 + b.size + 2 ≤ 100000; omega) HM6.out).mono ?_; rintro e w7 ⟨rfl, hb7⟩
                    rw [HG5.out]
                    have HB7 := Lib.hid (HB6.out.step (below_drew hb7) HB6.out.size)
                    have HM7 := Lib.hid ((HB7.out.cell (p := ⟨1, 0, none⟩) HW0.out).trans HM.out)
                    clear hb7 HM6 HB6
                    go_wp2_with fail
                    refine (HG.out a w7 (by omega) HM7.out).mono ?_; rintro e w8 ⟨rfl, hb8⟩
                    rw [HGA.out, decide_eq_true (show a.size ≤ 63 by omega), hpa, Bool.and_self]
                    have HB8 := Lib.hid (HB7.out.step (below_drew hb8) HB7.out.size)
                    have HM8 := Lib.hid ((HB8.out.cell (p := ⟨1, 0, none⟩) HW0.out).trans HM.out)
                    clear hb8 HM7 HB7
                    go_wp2_with fail
                    refine (HI.out a w8 (by omega) HM8.out (HT.out.below HB8.out)).mono ?_; rintro e w9 ⟨rfl, hb9⟩
                    rw [show (⟨(identB (bytes a)).toArray⟩ : ByteArray) = a by rw [show identB (bytes a) = bytes a by unfold identB; rw [hpa, htk]; rfl]]
                    have HB9 := Lib.hid (HB8.out.step hb9 HB8.out.size)
                    have HM9 := Lib.hid ((HB9.out.cell (p := ⟨1, 0, none⟩) HW0.out).trans HM.out)
                    clear hb9 HM8 HB8
                    go_wp2_with fail
                    refine (HL.out a w9 (by omega) HM9.out).mono ?_; rintro e w10 ⟨rfl, hb10⟩
                    rw [part_doubled hpa 39 (by decide) (by decide), quoted_str]
                    have HB10 := Lib.hid (HB9.out.step hb10 HB9.out.size)
                    have HM10 := Lib.hid ((HB10.out.cell (p := ⟨1, 0, none⟩) HW0.out).trans HM.out)
                    clear hb10 HM9 HB9
                    go_wp2_with fail
                    go_ret
                    exact ⟨rfl, HB10.out⟩
                · have h4 : (63 : Int) ≤ (a.size : Int) + b.size := by omega
                  have h5 : decide ((a.size : Int) + b.size < 63) = false := decide_eq_false (by omega)
                  cases htk : takenB (bytes a) with
                  | true =>
                    go_wp2_with fail
                    refine (HG.out a wr (by omega) HM1.out).mono ?_; rintro e w2 ⟨rfl, hb2⟩
                    rw [HGA.out, decide_eq_true (show a.size ≤ 63 by omega), hpa, Bool.and_self]
                    have HB2 := Lib.hid (HB1.out.step (below_drew hb2) HB1.out.size)
                    have HM2 := Lib.hid ((HB2.out.cell (p := ⟨1, 0, none⟩) HW0.out).trans HM.out)
                    clear hb2 HM1 HB1
                    go_wp2_with fail
                    refine (HG.out b w2 (by omega) HM2.out).mono ?_; rintro e w3 ⟨rfl, hb3⟩
                    rw [HGB.out, decide_eq_true (show b.size ≤ 63 by omega), hpb, Bool.and_self]
                    have HB3 := Lib.hid (HB2.out.step (below_drew hb3) HB2.out.size)
                    have HM3 := Lib.hid ((HB3.out.cell (p := ⟨1, 0, none⟩) HW0.out).trans HM.out)
                    clear hb3 HM2 HB2
                    go_wp2_with fail
                    refine (HG.out _ w3 (by simp only [ByteArray.size_append]; show a.size + 1 + b.size ≤ 100000; omega) HM3.out).mono ?_; rintro e w4 ⟨rfl, hb4⟩
                    rw [HG2.out, hpa, hpb, decide_eq_false (show ¬ a.size + b.size ≤ 62 by omega), show (false && (true && true)) = false from rfl]
                    have HB4 := Lib.hid (HB3.out.step (below_drew hb4) HB3.out.size)
                    have HM4 := Lib.hid ((HB4.out.cell (p := ⟨1, 0, none⟩) HW0.out).trans HM.out)
                    clear hb4 HM3 HB3
                    go_wp2_with fail
                    refine (HG.out _ w4 (by simp only [ByteArray.size_append]; show a.size + 1 + b.size ≤ 100000; omega) HM4.out).mono ?_; rintro e w5 ⟨rfl, hb5⟩
                    rw [HG3.out]
                    have HB5 := Lib.hid (HB4.out.step (below_drew hb5) HB4.out.size)
                    have HM5 := Lib.hid ((HB5.out.cell (p := ⟨1, 0, none⟩) HW0.out).trans HM.out)
                    clear hb5 HM4 HB4
                    go_wp2_with fail
                    refine (HG.out _ w5 (by simp only [ByteArray.size_append]; show a.size + 1 + b.size ≤ 100000; omega) HM5.out).mono ?_; rintro e w6 ⟨rfl, hb6⟩
                    rw [HG4.out]
                    have HB6 := Lib.hid (HB5.out.step (below_drew hb6) HB5.out.size)
                    have HM6 := Lib.hid ((HB6.out.cell (p := ⟨1, 0, none⟩) HW0.out).trans HM.out)
                    clear hb6 HM5 HB5
                    go_wp2_with fail
                    refine (HG.out _ w6 (by simp only [ByteArray.size_append]; show a.size + 1 + b.size + 2 ≤ 100000; omega) HM6.out).mono ?_; rintro e w7 ⟨rfl, hb7⟩
                    rw [HG5.out]
                    have HB7 := Lib.hid (HB6.out.step (below_drew hb7) HB6.out.size)
                    have HM7 := Lib.hid ((HB7.out.cell (p := ⟨1, 0, none⟩) HW0.out).trans HM.out)
                    clear hb7 HM6 HB6
                    go_wp2_with fail
                    refine (HG.out a w7 (by omega) HM7.out).mono ?_; rintro e w8 ⟨rfl, hb8⟩
                    rw [HGA.out, decide_eq_true (show a.size ≤ 63 by omega), hpa, Bool.and_self]
                    have HB8 := Lib.hid (HB7.out.step (below_drew hb8) HB7.out.size)
                    have HM8 := Lib.hid ((HB8.out.cell (p := ⟨1, 0, none⟩) HW0.out).trans HM.out)
                    clear hb8 HM7 HB7
                    go_wp2_with fail
                    refine (HI.out a w8 (by omega) HM8.out (HT.out.below HB8.out)).mono ?_; rintro e w9 ⟨rfl, hb9⟩
                    rw [show identB (bytes a) = 34 :: (bytes a ++ [34]) by unfold identB; rw [hpa, htk]; exact part_doubled hpa 34 (by decide) (by decide), quoted_str]
                    have HB9 := Lib.hid (HB8.out.step hb9 HB8.out.size)
                    have HM9 := Lib.hid ((HB9.out.cell (p := ⟨1, 0, none⟩) HW0.out).trans HM.out)
                    clear hb9 HM8 HB8
                    have hne := quoted_ne 34 a
                    go_wp2_with fail
                    refine (HI.out a w9 (by omega) HM9.out (HT.out.below HB9.out)).mono ?_; rintro e w10 ⟨rfl, hb10⟩
                    rw [show identB (bytes a) = 34 :: (bytes a ++ [34]) by unfold identB; rw [hpa, htk]; exact part_doubled hpa 34 (by decide) (by decide), quoted_str]
                    have HB10 := Lib.hid (HB9.out.step hb10 HB9.out.size)
                    have HM10 := Lib.hid ((HB10.out.cell (p := ⟨1, 0, none⟩) HW0.out).trans HM.out)
                    clear hb10 HM9 HB9
                    go_wp2_with fail
                    refine (HL.out a w10 (by omega) HM10.out).mono ?_; rintro e w11 ⟨rfl, hb11⟩
                    rw [part_doubled hpa 39 (by decide) (by decide), quoted_str]
                    have HB11 := Lib.hid (HB10.out.step hb11 HB10.out.size)
                    have HM11 := Lib.hid ((HB11.out.cell (p := ⟨1, 0, none⟩) HW0.out).trans HM.out)
                    clear hb11 HM10 HB10
                    go_wp2_with fail
                    go_ret
                    exact ⟨rfl, HB11.out⟩
                  | false =>
                    go_wp2_with fail
                    refine (HG.out a wr (by omega) HM1.out).mono ?_; rintro e w2 ⟨rfl, hb2⟩
                    rw [HGA.out, decide_eq_true (show a.size ≤ 63 by omega), hpa, Bool.and_self]
                    have HB2 := Lib.hid (HB1.out.step (below_drew hb2) HB1.out.size)
                    have HM2 := Lib.hid ((HB2.out.cell (p := ⟨1, 0, none⟩) HW0.out).trans HM.out)
                    clear hb2 HM1 HB1
                    go_wp2_with fail
                    refine (HG.out b w2 (by omega) HM2.out).mono ?_; rintro e w3 ⟨rfl, hb3⟩
                    rw [HGB.out, decide_eq_true (show b.size ≤ 63 by omega), hpb, Bool.and_self]
                    have HB3 := Lib.hid (HB2.out.step (below_drew hb3) HB2.out.size)
                    have HM3 := Lib.hid ((HB3.out.cell (p := ⟨1, 0, none⟩) HW0.out).trans HM.out)
                    clear hb3 HM2 HB2
                    go_wp2_with fail
                    refine (HG.out _ w3 (by simp only [ByteArray.size_append]; show a.size + 1 + b.size ≤ 100000; omega) HM3.out).mono ?_; rintro e w4 ⟨rfl, hb4⟩
                    rw [HG2.out, hpa, hpb, decide_eq_false (show ¬ a.size + b.size ≤ 62 by omega), show (false && (true && true)) = false from rfl]
                    have HB4 := Lib.hid (HB3.out.step (below_drew hb4) HB3.out.size)
                    have HM4 := Lib.hid ((HB4.out.cell (p := ⟨1, 0, none⟩) HW0.out).trans HM.out)
                    clear hb4 HM3 HB3
                    go_wp2_with fail
                    refine (HG.out _ w4 (by simp only [ByteArray.size_append]; show a.size + 1 + b.size ≤ 100000; omega) HM4.out).mono ?_; rintro e w5 ⟨rfl, hb5⟩
                    rw [HG3.out]
                    have HB5 := Lib.hid (HB4.out.step (below_drew hb5) HB4.out.size)
                    have HM5 := Lib.hid ((HB5.out.cell (p := ⟨1, 0, none⟩) HW0.out).trans HM.out)
                    clear hb5 HM4 HB4
                    go_wp2_with fail
                    refine (HG.out _ w5 (by simp only [ByteArray.size_append]; show a.size + 1 + b.size ≤ 100000; omega) HM5.out).mono ?_; rintro e w6 ⟨rfl, hb6⟩
                    rw [HG4.out]
                    have HB6 := Lib.hid (HB5.out.step (below_drew hb6) HB5.out.size)
                    have HM6 := Lib.hid ((HB6.out.cell (p := ⟨1, 0, none⟩) HW0.out).trans HM.out)
                    clear hb6 HM5 HB5
                    go_wp2_with fail
                    refine (HG.out _ w6 (by simp only [ByteArray.size_append]; show a.size + 1 + b.size + 2 ≤ 100000; omega) HM6.out).mono ?_; rintro e w7 ⟨rfl, hb7⟩
                    rw [HG5.out]
                    have HB7 := Lib.hid (HB6.out.step (below_drew hb7) HB6.out.size)
                    have HM7 := Lib.hid ((HB7.out.cell (p := ⟨1, 0, none⟩) HW0.out).trans HM.out)
                    clear hb7 HM6 HB6
                    go_wp2_with fail
                    refine (HG.out a w7 (by omega) HM7.out).mono ?_; rintro e w8 ⟨rfl, hb8⟩
                    rw [HGA.out, decide_eq_true (show a.size ≤ 63 by omega), hpa, Bool.and_self]
                    have HB8 := Lib.hid (HB7.out.step (below_drew hb8) HB7.out.size)
                    have HM8 := Lib.hid ((HB8.out.cell (p := ⟨1, 0, none⟩) HW0.out).trans HM.out)
                    clear hb8 HM7 HB7
                    go_wp2_with fail
                    refine (HI.out a w8 (by omega) HM8.out (HT.out.below HB8.out)).mono ?_; rintro e w9 ⟨rfl, hb9⟩
                    rw [show (⟨(identB (bytes a)).toArray⟩ : ByteArray) = a by rw [show identB (bytes a) = bytes a by unfold identB; rw [hpa, htk]; rfl]]
                    have HB9 := Lib.hid (HB8.out.step hb9 HB8.out.size)
                    have HM9 := Lib.hid ((HB9.out.cell (p := ⟨1, 0, none⟩) HW0.out).trans HM.out)
                    clear hb9 HM8 HB8
                    go_wp2_with fail
                    refine (HL.out a w9 (by omega) HM9.out).mono ?_; rintro e w10 ⟨rfl, hb10⟩
                    rw [part_doubled hpa 39 (by decide) (by decide), quoted_str]
                    have HB10 := Lib.hid (HB9.out.step hb10 HB9.out.size)
                    have HM10 := Lib.hid ((HB10.out.cell (p := ⟨1, 0, none⟩) HW0.out).trans HM.out)
                    clear hb10 HM9 HB9
                    go_wp2_with fail
                    go_ret
                    exact ⟨rfl, HB10.out⟩
              · have h4 : (63 : Int) ≤ (a.size : Int) + b.size := by omega
                cases htk : takenB (bytes a) with
                | true =>
                  go_wp2_with fail
                  refine (HG.out a wr (by omega) HM1.out).mono ?_; rintro e w2 ⟨rfl, hb2⟩
                  rw [HGA.out, decide_eq_true (show a.size ≤ 63 by omega), hpa, Bool.and_self]
                  have HB2 := Lib.hid (HB1.out.step (below_drew hb2) HB1.out.size)
                  have HM2 := Lib.hid ((HB2.out.cell (p := ⟨1, 0, none⟩) HW0.out).trans HM.out)
                  clear hb2 HM1 HB1
                  go_wp2_with fail
                  refine (HG.out b w2 (by omega) HM2.out).mono ?_; rintro e w3 ⟨rfl, hb3⟩
                  rw [HGB.out, decide_eq_false (show ¬ b.size ≤ 63 by omega), hpb, Bool.and_true]
                  have HB3 := Lib.hid (HB2.out.step (below_drew hb3) HB2.out.size)
                  have HM3 := Lib.hid ((HB3.out.cell (p := ⟨1, 0, none⟩) HW0.out).trans HM.out)
                  clear hb3 HM2 HB2
                  go_wp2_with fail
                  refine (HG.out _ w3 (by simp only [ByteArray.size_append]; show a.size + 1 + b.size ≤ 100000; omega) HM3.out).mono ?_; rintro e w4 ⟨rfl, hb4⟩
                  rw [HG2.out, hpa, hpb, decide_eq_false (show ¬ a.size + b.size ≤ 62 by omega), show (false && (true && true)) = false from rfl]
                  have HB4 := Lib.hid (HB3.out.step (below_drew hb4) HB3.out.size)
                  have HM4 := Lib.hid ((HB4.out.cell (p := ⟨1, 0, none⟩) HW0.out).trans HM.out)
                  clear hb4 HM3 HB3
                  go_wp2_with fail
                  refine (HG.out _ w4 (by simp only [ByteArray.size_append]; show a.size + 1 + b.size ≤ 100000; omega) HM4.out).mono ?_; rintro e w5 ⟨rfl, hb5⟩
                  rw [HG3.out]
                  have HB5 := Lib.hid (HB4.out.step (below_drew hb5) HB4.out.size)
                  have HM5 := Lib.hid ((HB5.out.cell (p := ⟨1, 0, none⟩) HW0.out).trans HM.out)
                  clear hb5 HM4 HB4
                  go_wp2_with fail
                  refine (HG.out _ w5 (by simp only [ByteArray.size_append]; show a.size + 1 + b.size ≤ 100000; omega) HM5.out).mono ?_; rintro e w6 ⟨rfl, hb6⟩
                  rw [HG4.out]
                  have HB6 := Lib.hid (HB5.out.step (below_drew hb6) HB5.out.size)
                  have HM6 := Lib.hid ((HB6.out.cell (p := ⟨1, 0, none⟩) HW0.out).trans HM.out)
                  clear hb6 HM5 HB5
                  go_wp2_with fail
                  refine (HG.out _ w6 (by simp only [ByteArray.size_append]; show a.size + 1 + b.size + 2 ≤ 100000; omega) HM6.out).mono ?_; rintro e w7 ⟨rfl, hb7⟩
                  rw [HG5.out]
                  have HB7 := Lib.hid (HB6.out.step (below_drew hb7) HB6.out.size)
                  have HM7 := Lib.hid ((HB7.out.cell (p := ⟨1, 0, none⟩) HW0.out).trans HM.out)
                  clear hb7 HM6 HB6
                  go_wp2_with fail
                  refine (HG.out a w7 (by omega) HM7.out).mono ?_; rintro e w8 ⟨rfl, hb8⟩
                  rw [HGA.out, decide_eq_true (show a.size ≤ 63 by omega), hpa, Bool.and_self]
                  have HB8 := Lib.hid (HB7.out.step (below_drew hb8) HB7.out.size)
                  have HM8 := Lib.hid ((HB8.out.cell (p := ⟨1, 0, none⟩) HW0.out).trans HM.out)
                  clear hb8 HM7 HB7
                  go_wp2_with fail
                  refine (HI.out a w8 (by omega) HM8.out (HT.out.below HB8.out)).mono ?_; rintro e w9 ⟨rfl, hb9⟩
                  rw [show identB (bytes a) = 34 :: (bytes a ++ [34]) by unfold identB; rw [hpa, htk]; exact part_doubled hpa 34 (by decide) (by decide), quoted_str]
                  have HB9 := Lib.hid (HB8.out.step hb9 HB8.out.size)
                  have HM9 := Lib.hid ((HB9.out.cell (p := ⟨1, 0, none⟩) HW0.out).trans HM.out)
                  clear hb9 HM8 HB8
                  have hne := quoted_ne 34 a
                  go_wp2_with fail
                  refine (HI.out a w9 (by omega) HM9.out (HT.out.below HB9.out)).mono ?_; rintro e w10 ⟨rfl, hb10⟩
                  rw [show identB (bytes a) = 34 :: (bytes a ++ [34]) by unfold identB; rw [hpa, htk]; exact part_doubled hpa 34 (by decide) (by decide), quoted_str]
                  have HB10 := Lib.hid (HB9.out.step hb10 HB9.out.size)
                  have HM10 := Lib.hid ((HB10.out.cell (p := ⟨1, 0, none⟩) HW0.out).trans HM.out)
                  clear hb10 HM9 HB9
                  go_wp2_with fail
                  refine (HL.out a w10 (by omega) HM10.out).mono ?_; rintro e w11 ⟨rfl, hb11⟩
                  rw [part_doubled hpa 39 (by decide) (by decide), quoted_str]
                  have HB11 := Lib.hid (HB10.out.step hb11 HB10.out.size)
                  have HM11 := Lib.hid ((HB11.out.cell (p := ⟨1, 0, none⟩) HW0.out).trans HM.out)
                  clear hb11 HM10 HB10
                  go_wp2_with fail
                  go_ret
                  exact ⟨rfl, HB11.out⟩
                | false =>
                  go_wp2_with fail
                  refine (HG.out a wr (by omega) HM1.out).mono ?_; rintro e w2 ⟨rfl, hb2⟩
                  rw [HGA.out, decide_eq_true (show a.size ≤ 63 by omega), hpa, Bool.and_self]
                  have HB2 := Lib.hid (HB1.out.step (below_drew hb2) HB1.out.size)
                  have HM2 := Lib.hid ((HB2.out.cell (p := ⟨1, 0, none⟩) HW0.out).trans HM.out)
                  clear hb2 HM1 HB1
                  go_wp2_with fail
                  refine (HG.out b w2 (by omega) HM2.out).mono ?_; rintro e w3 ⟨rfl, hb3⟩
                  rw [HGB.out, decide_eq_false (show ¬ b.size ≤ 63 by omega), hpb, Bool.and_true]
                  have HB3 := Lib.hid (HB2.out.step (below_drew hb3) HB2.out.size)
                  have HM3 := Lib.hid ((HB3.out.cell (p := ⟨1, 0, none⟩) HW0.out).trans HM.out)
                  clear hb3 HM2 HB2
                  go_wp2_with fail
                  refine (HG.out _ w3 (by simp only [ByteArray.size_append]; show a.size + 1 + b.size ≤ 100000; omega) HM3.out).mono ?_; rintro e w4 ⟨rfl, hb4⟩
                  rw [HG2.out, hpa, hpb, decide_eq_false (show ¬ a.size + b.size ≤ 62 by omega), show (false && (true && true)) = false from rfl]
                  have HB4 := Lib.hid (HB3.out.step (below_drew hb4) HB3.out.size)
                  have HM4 := Lib.hid ((HB4.out.cell (p := ⟨1, 0, none⟩) HW0.out).trans HM.out)
                  clear hb4 HM3 HB3
                  go_wp2_with fail
                  refine (HG.out _ w4 (by simp only [ByteArray.size_append]; show a.size + 1 + b.size ≤ 100000; omega) HM4.out).mono ?_; rintro e w5 ⟨rfl, hb5⟩
                  rw [HG3.out]
                  have HB5 := Lib.hid (HB4.out.step (below_drew hb5) HB4.out.size)
                  have HM5 := Lib.hid ((HB5.out.cell (p := ⟨1, 0, none⟩) HW0.out).trans HM.out)
                  clear hb5 HM4 HB4
                  go_wp2_with fail
                  refine (HG.out _ w5 (by simp only [ByteArray.size_append]; show a.size + 1 + b.size ≤ 100000; omega) HM5.out).mono ?_; rintro e w6 ⟨rfl, hb6⟩
                  rw [HG4.out]
                  have HB6 := Lib.hid (HB5.out.step (below_drew hb6) HB5.out.size)
                  have HM6 := Lib.hid ((HB6.out.cell (p := ⟨1, 0, none⟩) HW0.out).trans HM.out)
                  clear hb6 HM5 HB5
                  go_wp2_with fail
                  refine (HG.out _ w6 (by simp only [ByteArray.size_append]; show a.size + 1 + b.size + 2 ≤ 100000; omega) HM6.out).mono ?_; rintro e w7 ⟨rfl, hb7⟩
                  rw [HG5.out]
                  have HB7 := Lib.hid (HB6.out.step (below_drew hb7) HB6.out.size)
                  have HM7 := Lib.hid ((HB7.out.cell (p := ⟨1, 0, none⟩) HW0.out).trans HM.out)
                  clear hb7 HM6 HB6
                  go_wp2_with fail
                  refine (HG.out a w7 (by omega) HM7.out).mono ?_; rintro e w8 ⟨rfl, hb8⟩
                  rw [HGA.out, decide_eq_true (show a.size ≤ 63 by omega), hpa, Bool.and_self]
                  have HB8 := Lib.hid (HB7.out.step (below_drew hb8) HB7.out.size)
                  have HM8 := Lib.hid ((HB8.out.cell (p := ⟨1, 0, none⟩) HW0.out).trans HM.out)
                  clear hb8 HM7 HB7
                  go_wp2_with fail
                  refine (HI.out a w8 (by omega) HM8.out (HT.out.below HB8.out)).mono ?_; rintro e w9 ⟨rfl, hb9⟩
                  rw [show (⟨(identB (bytes a)).toArray⟩ : ByteArray) = a by rw [show identB (bytes a) = bytes a by unfold identB; rw [hpa, htk]; rfl]]
                  have HB9 := Lib.hid (HB8.out.step hb9 HB8.out.size)
                  have HM9 := Lib.hid ((HB9.out.cell (p := ⟨1, 0, none⟩) HW0.out).trans HM.out)
                  clear hb9 HM8 HB8
                  go_wp2_with fail
                  refine (HL.out a w9 (by omega) HM9.out).mono ?_; rintro e w10 ⟨rfl, hb10⟩
                  rw [part_doubled hpa 39 (by decide) (by decide), quoted_str]
                  have HB10 := Lib.hid (HB9.out.step hb10 HB9.out.size)
                  have HM10 := Lib.hid ((HB10.out.cell (p := ⟨1, 0, none⟩) HW0.out).trans HM.out)
                  clear hb10 HM9 HB9
                  go_wp2_with fail
                  go_ret
                  exact ⟨rfl, HB10.out⟩
          · go_wp2_with fail
            refine (HG.out a wr (by omega) HM1.out).mono ?_; rintro e w2 ⟨rfl, hb2⟩
            rw [HGA.out, decide_eq_false (show ¬ a.size ≤ 63 by omega), hpa, Bool.and_true]
            have HB2 := Lib.hid (HB1.out.step (below_drew hb2) HB1.out.size)
            have HM2 := Lib.hid ((HB2.out.cell (p := ⟨1, 0, none⟩) HW0.out).trans HM.out)
            clear hb2 HM1 HB1
            go_wp2_with fail
            refine (HG.out _ w2 (by simp only [ByteArray.size_append]; show a.size + 1 + b.size ≤ 100000; omega) HM2.out).mono ?_; rintro e w3 ⟨rfl, hb3⟩
            rw [HG2.out, hpa, decide_eq_false (show ¬ a.size + b.size ≤ 62 by omega), Bool.false_and]
            have HB3 := Lib.hid (HB2.out.step (below_drew hb3) HB2.out.size)
            have HM3 := Lib.hid ((HB3.out.cell (p := ⟨1, 0, none⟩) HW0.out).trans HM.out)
            clear hb3 HM2 HB2
            go_wp2_with fail
            refine (HG.out _ w3 (by simp only [ByteArray.size_append]; show a.size + 1 + b.size ≤ 100000; omega) HM3.out).mono ?_; rintro e w4 ⟨rfl, hb4⟩
            rw [HG3.out]
            have HB4 := Lib.hid (HB3.out.step (below_drew hb4) HB3.out.size)
            have HM4 := Lib.hid ((HB4.out.cell (p := ⟨1, 0, none⟩) HW0.out).trans HM.out)
            clear hb4 HM3 HB3
            go_wp2_with fail
            refine (HG.out _ w4 (by simp only [ByteArray.size_append]; show a.size + 1 + b.size ≤ 100000; omega) HM4.out).mono ?_; rintro e w5 ⟨rfl, hb5⟩
            rw [HG4.out]
            have HB5 := Lib.hid (HB4.out.step (below_drew hb5) HB4.out.size)
            have HM5 := Lib.hid ((HB5.out.cell (p := ⟨1, 0, none⟩) HW0.out).trans HM.out)
            clear hb5 HM4 HB4
            go_wp2_with fail
            refine (HG.out _ w5 (by simp only [ByteArray.size_append]; show a.size + 1 + b.size + 2 ≤ 100000; omega) HM5.out).mono ?_; rintro e w6 ⟨rfl, hb6⟩
            rw [HG5.out]
            have HB6 := Lib.hid (HB5.out.step (below_drew hb6) HB5.out.size)
            have HM6 := Lib.hid ((HB6.out.cell (p := ⟨1, 0, none⟩) HW0.out).trans HM.out)
            clear hb6 HM5 HB5
            go_wp2_with fail
            refine (HG.out a w6 (by omega) HM6.out).mono ?_; rintro e w7 ⟨rfl, hb7⟩
            rw [HGA.out, decide_eq_false (show ¬ a.size ≤ 63 by omega), hpa, Bool.and_true]
            have HB7 := Lib.hid (HB6.out.step (below_drew hb7) HB6.out.size)
            have HM7 := Lib.hid ((HB7.out.cell (p := ⟨1, 0, none⟩) HW0.out).trans HM.out)
            clear hb7 HM6 HB6
            go_wp2_with fail
            go_ret
            exact ⟨rfl, HB7.out⟩
  · have hl' : (300 : Int) < (a.size : Int) + b.size := by omega
    go_enter Tryd.func6, Tryd.ntmps6
    go_wp2_with fail
    refine HSH.out.mono ?_; rintro e w1 ⟨rfl, hb1⟩
    have HB1 := Lib.hid hb1
    clear hb1 HSH
    go_wp2_with fail
    go_ret
    exact ⟨rfl, HB1.out⟩

set_option maxRecDepth 100000 in
theorem parts_lifted (os : Os) (started : os.Started) (H : Type) (enc : TypeId × Value → H) :
    ReturnsInHanded {} Tryd.checked os 6 .any (fun w args => (Rows.namesPartsSpec.pre enc Tryd.prog Tryd.f6 Rows.namesPartsRow.domain false w args ∧ laidMetH Tryd.prog [("unicode/utf8.acceptRanges", Rows.laid_unicode_utf8_acceptRanges), ("taxirank/names.taken", Rows.laid_taxirank_names_taken), ("unicode/utf8.first", Rows.laid_unicode_utf8_first)] w) ∧ sizedMet enc Tryd.prog Tryd.f6 (OpenSpec.ofChange Rows.namesPartsSpec) false w args) (Rows.namesPartsSpec.post enc Tryd.prog Tryd.f6 false true false false) := by
  refine handed_laid (C := Tryd.checked) (X := fun w _ => laidMetH Tryd.prog [("unicode/utf8.acceptRanges", Rows.laid_unicode_utf8_acceptRanges), ("taxirank/names.taken", Rows.laid_taxirank_names_taken), ("unicode/utf8.first", Rows.laid_unicode_utf8_first)] w) (fun _ _ _ hh h => h.of_heap hh) own started (by kernel_rfl) Tryd.func6
    (ChangeSpec.witness_shaped (enc := enc) (C := Tryd.checked) (os := os) (X := fun w _ => laidMetH Tryd.prog [("unicode/utf8.acceptRanges", Rows.laid_unicode_utf8_acceptRanges), ("taxirank/names.taken", Rows.laid_taxirank_names_taken), ("unicode/utf8.first", Rows.laid_unicode_utf8_first)] w) false (World.laidAll Tryd.prog os [("unicode/utf8.acceptRanges", Rows.laid_unicode_utf8_acceptRanges), ("taxirank/names.taken", Rows.laid_taxirank_names_taken), ("unicode/utf8.first", Rows.laid_unicode_utf8_first)]) #[.string { data := #[] }, .string { data := #[] }] 8 (World.laidAll_os _ _ _) (World.shaped_of_ZipB (by kernel_rfl) (by kernel_rfl)) (by kernel_rfl) (by kernel_rfl) (by kernel_rfl)
      (by rw [MakeChecks.laidMetH_plain _ _ _ (by kernel_rfl)]; exact laidMet_laidAll _ (by kernel_rfl) (by kernel_rfl))) ?_
  intro W base args ds gs before hval0 hW hsz0 hsh hL
  obtain ⟨m, hm⟩ : ∃ m, W.cell? ⟨1, 0, none⟩ = some (.int .i64 m) := Tryd.laysM143.s1_3 W hsh
  have hT := taken_of_laid hL
  have hsz : (DataW.weightsEach Tryd.prog (Tryd.f6.params.toList ++ Rows.namesPartsSpec.plain.varTypes Tryd.prog) (ds ++ gs)).all (· ≤ reachBytes) = true := hsz0
  clear hsz0
  have hval : ∀ (j : Nat) t v, Tryd.f6.params[j]? = some t → args[j]? = some v → Value.okWide Tryd.prog W .any base t v := hval0
  have hW' := hW
  obtain ⟨p, q, hA0, hV, rfl, _, _⟩ := hW
  have hA : DataW.TrodAll enc Tryd.prog W 0 (fun _ => true) true Tryd.f6.params.toList args.toList ds p := hA0
  rw [Tryd.params6] at hA hval hsz
  obtain ⟨v0, v1, d0, d1, p0, p1, rfl, rfl, rfl, h0, h1⟩ := trodAll_two hA
  obtain ⟨rfl, rfl⟩ := trodVars_none hV
  obtain ⟨a, rfl, rfl, rfl, hl_a⟩ := Go.ChangeMaps.open_string Tryd.underlying9 (hval 0 9 v0 rfl rfl) h0
  have hz_a : a.size ≤ 140737488351232 := by have := sized_string hsz (j := 0) (t := 9) rfl rfl; rw [size_list] at this; exact this
  obtain ⟨b, rfl, rfl, rfl, hl_b⟩ := Go.ChangeMaps.open_string Tryd.underlying9 (hval 1 9 v1 rfl rfl) h1
  have hz_b : b.size ≤ 140737488351232 := by have := sized_string hsz (j := 1) (t := 9) rfl rfl; rw [size_list] at this; exact this
  refine (parts_ok a b m W hz_a hz_b hm hT).mono fun e W' ⟨he, hb⟩ => ?_
  subst he
  exact ⟨_, rfl, law_shut laidOut (by kernel_rfl) (by kernel_rfl) Tryd.underlying4 rfl hW' rfl hb⟩

theorem parts_holds : Rows.NamesPartsSaid :=
  OpenClaim.holds_of_wide 6 Tryd.f6 rfl rfl rfl rfl rfl rfl rfl ⟨rfl, rfl, rfl, rfl, rfl⟩ rfl rfl rfl rfl rfl (by kernel_rfl) Tryd.func6 (by kernel_rfl)
    (of_decide_eq_true (by kernel_rfl)) (by unfold Func.isWrapper; rw [if_neg (of_decide_eq_false (by kernel_rfl))]; exact ⟨rfl, rfl⟩)
    (fun os started H enc _ => parts_lifted os started H enc)

theorem parts_card : Rows.NamesPartsCardSaid :=
  Claim7.holds_tied_plain_at .later [] [.data, .data, .pinned] true _ false parts_holds (fun _ h => by cases h) (by kernel_rfl) (fun _ h => by cases h) namesParts_row_tie rfl ⟨rfl, rfl⟩ (by kernel_rfl) rfl
    (fun f fn hf hfn => by
      obtain rfl : f = 6 := Option.some.inj ((show Tryd.prog.funcNamed "taxirank/taxiranklaw7.NamesParts" = some 6 by kernel_rfl).symm.trans hf) |>.symm
      obtain rfl : fn = Tryd.f6 := (Option.some.inj (Tryd.func6.symm.trans hfn)).symm
      exact ⟨by kernel_rfl, fun j t ht => by
        rw [Tryd.params6] at ht
        have hm : t ∈ [9, 9] := by simpa using Array.mem_of_getElem? ht
        have hall : ([9, 9].all fun u => !Tryd.prog.wantsStandIn u) = true := by kernel_rfl
        exact (show Tryd.prog.wantsStandIn t = false by simpa using List.all_eq_true.1 hall t hm)⟩)
    (by kernel_rfl)
end Go.Proofs.YtalnflfafapicaaDoor
