/- A name is as long as may be: NamesLong answers true, whatever integers it is called with, and leaves what was there as it was. (Over the listed variables, tied to the program's text.) -/
import Derived.Test.YtalnflfafapicaaDoorNCard
import Derived.Test.YtalnflfafapicaaDoorNNameM
namespace Go.Proofs.YtalnflfafapicaaDoor
open Go.RowKit Go.Lib Go.WideShapes Go.ChangeShapes Go.ChangeAt Go.Joins

theorem str_snoc_a (S : ByteArray) (k : Nat) (h : bytes S = List.replicate k 97) : bytes (S ++ { data := #[97] }) = List.replicate (k + 1) 97 := by
  have : bytes (S ++ { data := #[97] }) = bytes S ++ [97] := by simp [bytes]
  rw [this, h, List.replicate_succ']

set_option maxHeartbeats 2000000 in
theorem letters_any (n : Int) (w : World) (hn : -9223372036854775808 ≤ n ∧ n ≤ 9223372036854775807) :
    Calls Tryd.prog 21 #[.int .i64 n] w fun e w' => ∃ S : ByteArray, e = .returned (.string S) ∧ (bytes S = List.replicate S.size 97 ∧ S.size < 80) ∧ w = w' := by
  by_cases h : n < 0
  · have r9 : (n + 1).tmod 80 = -((-(n + 1)) % 80) := by
      rw [← Int.tmod_eq_emod_of_nonneg (by omega), Int.neg_tmod]; omega
    have r0 : (n + 1).tmod 80 ≤ 0 := by omega
    have r1 : -(n + 1).tmod 80 < 80 := by omega
    clear r9
    go_enter Tryd.func21, Tryd.ntmps21
    go_wp2_with fail
    go_loopg [3, 4] 80 (fun g v i wr => ∃ (k : Nat) (S : ByteArray), g = 80 - k ∧ v = .string S ∧ i = .int .i64 k ∧ (k : Int) ≤ -(n + 1).tmod 80 ∧ S.size = k ∧ bytes S = List.replicate k 97 ∧ wr = w)
    case atStart => exact ⟨0, { data := #[] }, rfl, rfl, rfl, by omega, rfl, rfl, rfl⟩
    case round =>
      obtain ⟨k, S, hg, rfl, rfl, hk, hS, hB, rfl⟩ := hrel
      have HG := Lib.hid hg; have HS := Lib.hid hS; have HB := Lib.hid hB
      have hsz : S.size ≤ 80 := by omega
      clear hg hS hB
      by_cases hlt : (k : Int) < -(n + 1).tmod 80
      · go_wp2_with fail
        go_roundg (80 - (k + 1))
        case measure => have := HG.out; omega
        case rel => exact ⟨k + 1, _, rfl, rfl, by go_num, by omega, by rw [ByteArray.size_append, HS.out]; rfl, str_snoc_a S k HB.out, rfl⟩
      · have hge : -(n + 1).tmod 80 ≤ (k : Int) := by omega
        go_wp2_with fail
        go_ret
        exact ⟨S, rfl, ⟨by rw [HS.out]; exact HB.out, by have := HS.out; omega⟩, rfl⟩
  · have r0 : 0 ≤ n % 80 := by omega
    have r1 : n % 80 < 80 := by omega
    have h' : 0 ≤ n := by omega
    go_enter Tryd.func21, Tryd.ntmps21
    go_wp2_with fail
    go_loopg [3, 4] 80 (fun g v i wr => ∃ (k : Nat) (S : ByteArray), g = 80 - k ∧ v = .string S ∧ i = .int .i64 k ∧ (k : Int) ≤ n % 80 ∧ S.size = k ∧ bytes S = List.replicate k 97 ∧ wr = w)
    case atStart => exact ⟨0, { data := #[] }, rfl, rfl, rfl, by omega, rfl, rfl, rfl⟩
    case round =>
      obtain ⟨k, S, hg, rfl, rfl, hk, hS, hB, rfl⟩ := hrel
      have HG := Lib.hid hg; have HS := Lib.hid hS; have HB := Lib.hid hB
      have hsz : S.size ≤ 80 := by omega
      clear hg hS hB
      by_cases hlt : (k : Int) < n % 80
      · go_wp2_with fail
        go_roundg (80 - (k + 1))
        case measure => have := HG.out; omega
        case rel => exact ⟨k + 1, _, rfl, rfl, by go_num, by omega, by rw [ByteArray.size_append, HS.out]; rfl, str_snoc_a S k HB.out, rfl⟩
      · have hge : n % 80 ≤ (k : Int) := by omega
        go_wp2_with fail
        go_ret
        exact ⟨S, rfl, ⟨by rw [HS.out]; exact HB.out, by have := HS.out; omega⟩, rfl⟩

theorem nb_cat (a b : ByteArray) : bytes (a ++ b) = bytes a ++ bytes b := by simp [bytes]

theorem good_x {X : ByteArray} (h : bytes X = List.replicate X.size 97) : goodB (bytes X) = (decide (X.size ≤ 63) && decide (1 ≤ X.size)) := by
  rw [h, goodB_one (dot_as _), partB_as, List.length_replicate]
theorem good_xy {X Y : ByteArray} (h : bytes X = List.replicate X.size 97) (k : bytes Y = List.replicate Y.size 97) : goodB (bytes (X ++ { data := #[46] } ++ Y)) = (decide (X.size + Y.size ≤ 62) && (decide (1 ≤ X.size) && decide (1 ≤ Y.size))) := by
  rw [nb_cat, nb_cat, show bytes { data := #[46] } = [46] from rfl, show bytes X ++ [46] ++ bytes Y = bytes X ++ 46 :: bytes Y by simp, h, k, goodB_two (dot_as _), partB_as, partB_as, List.length_replicate, List.length_replicate]
theorem good_9x {X : ByteArray} (h : bytes X = List.replicate X.size 97) : goodB (bytes ({ data := #[57] } ++ X)) = false := by
  rw [nb_cat, show bytes { data := #[57] } = [57] from rfl, h, goodB_one (by simp)]
  show (decide _ && (lowB 57 && partR (List.replicate X.size 97))) = false
  rw [show lowB 57 = false by decide]; simp
theorem good_uy {Y : ByteArray} (h : bytes Y = List.replicate Y.size 97) : goodB (bytes ({ data := #[95] } ++ Y)) = decide (Y.size ≤ 62) := by
  rw [nb_cat, show bytes { data := #[95] } = [95] from rfl, h, goodB_one (by simp)]
  have : partB ([95] ++ List.replicate Y.size 97) = true := by
    show (lowB 95 && partR (List.replicate Y.size 97)) = true
    rw [show partR (List.replicate Y.size 97) = true from List.all_eq_true.2 fun x hx => by rw [List.eq_of_mem_replicate hx]; rfl]; rfl
  rw [this, Bool.and_true]
  exact decide_eq_decide.2 (by simp; try omega)

set_option maxRecDepth 100000 in
set_option maxHeartbeats 4000000 in
theorem long_ok (a b m : Int) (w : World) (ha : -9223372036854775808 ≤ a ∧ a ≤ 9223372036854775807) (hb : -9223372036854775808 ≤ b ∧ b ≤ 9223372036854775807) (hm : w.cell? ⟨1, 0, none⟩ = some (.int .i64 m)) (hT : TakenAt w) :
    Calls Tryd.prog 8 #[.int .i64 a, .int .i64 b] w fun e w' => e = .returned (.bool true) ∧ Below w.heap.size w w' := by
  have HM := Lib.hid hm
  have HW0 := Lib.hid (World.block_lt_of_cell? w ⟨1, 0, none⟩ hm)
  have HT := Lib.hid hT
  have HSH := Lib.hid (shown7_true m w hm hT)
  have HG := Lib.hid (fun (S : ByteArray) (W : World) h1 h2 => good_any S m W h1 h2)
  have HI := Lib.hid (fun (S : ByteArray) (W : World) h1 h2 h3 => ident_any S m W h1 h2 h3)
  have HLA := Lib.hid (fun W => letters_any a W ha)
  have HLB := Lib.hid (fun W => letters_any b W hb)
  clear hm hT ha hb
  go_enter Tryd.func8, Tryd.ntmps8
  go_wp2_with fail
  refine HSH.out.mono ?_; rintro e w1 ⟨rfl, hb1⟩
  have HB1 := Lib.hid hb1
  clear hb1 HSH
  go_wp2_with fail
  refine (HLA.out w1).mono ?_; rintro e w2 ⟨X, rfl, ⟨hX, hXs⟩, rfl⟩
  have HX := Lib.hid hX
  clear hX HLA
  go_wp2_with fail
  refine (HLB.out w1).mono ?_; rintro e w2 ⟨Y, rfl, ⟨hY, hYs⟩, rfl⟩
  have HY := Lib.hid hY
  clear hY HLB
  have HM1 := Lib.hid ((HB1.out.cell (p := ⟨1, 0, none⟩) HW0.out).trans HM.out)
  go_wp2_with fail
  refine (HG.out X w1 (by omega) HM1.out).mono ?_; rintro e w2 ⟨rfl, hb2⟩
  rw [good_x HX.out]
  have HB2 := Lib.hid (HB1.out.step (below_drew hb2) HB1.out.size)
  have HM2 := Lib.hid ((HB2.out.cell (p := ⟨1, 0, none⟩) HW0.out).trans HM.out)
  clear hb2 HM1 HB1
  have hc : X.size < 1 ∨ (1 ≤ X.size ∧ X.size ≤ 63) ∨ 63 < X.size := by omega
  rcases hc with hc | ⟨hc, hc2⟩ | hc
  · obtain rfl : X = { data := #[] } := by
      apply ByteArray.ext
      exact Array.eq_empty_of_size_eq_zero (by show X.size = 0; omega)
    by_cases hy0 : Y.size ≤ 62
    · have hy : (Y.size : Int) ≤ 62 := by omega
      go_wp2_with fail
      refine (HG.out _ w2 (by simp only [ByteArray.size_append]; show _ + 1 + _ ≤ 100000; omega) HM2.out).mono ?_; rintro e w3 ⟨rfl, hb3⟩
      rw [good_xy HX.out HY.out, show (decide (({ data := #[] } : ByteArray).size + Y.size ≤ 62) && (decide (1 ≤ ({ data := #[] } : ByteArray).size) && decide (1 ≤ Y.size))) = false by rw [decide_eq_false (show ¬ 1 ≤ ({ data := #[] } : ByteArray).size by decide)]; simp]
      have HB3 := Lib.hid (HB2.out.step (below_drew hb3) HB2.out.size)
      have HM3 := Lib.hid ((HB3.out.cell (p := ⟨1, 0, none⟩) HW0.out).trans HM.out)
      have HT3 := Lib.hid (HT.out.below HB3.out)
      clear hb3 HM2 HB2
      have HB4 := Lib.hid HB3.out
      have HM4 := Lib.hid HM3.out
      generalize hw4 : w3 = w4 at HB4 HM4 ⊢
      clear hw4 HM3 HB3 HT3
      go_wp2_with fail
      refine (HG.out _ w4 (by simp only [ByteArray.size_append]; show 1 + _ ≤ 100000; omega) HM4.out).mono ?_; rintro e w5 ⟨rfl, hb5⟩
      rw [good_9x HX.out]
      have HB5 := Lib.hid (HB4.out.step (below_drew hb5) HB4.out.size)
      have HM5 := Lib.hid ((HB5.out.cell (p := ⟨1, 0, none⟩) HW0.out).trans HM.out)
      clear hb5 HM4 HB4
      go_wp2_with fail
      refine (HG.out _ w5 (by simp only [ByteArray.size_append]; show 1 + _ ≤ 100000; omega) HM5.out).mono ?_; rintro e w6 ⟨rfl, hb6⟩
      rw [good_uy HY.out, decide_eq_true (show Y.size ≤ 62 by omega)]
      have HB6 := Lib.hid (HB5.out.step (below_drew hb6) HB5.out.size)
      clear hb6
      go_wp2_with fail
      go_ret
      exact ⟨rfl, HB6.out⟩
    · have hy : (62 : Int) < Y.size := by omega
      have hyd : decide ((Y.size : Int) ≤ 62) = false := decide_eq_false (by omega)
      go_wp2_with fail
      refine (HG.out _ w2 (by simp only [ByteArray.size_append]; show _ + 1 + _ ≤ 100000; omega) HM2.out).mono ?_; rintro e w3 ⟨rfl, hb3⟩
      rw [good_xy HX.out HY.out, show (decide (({ data := #[] } : ByteArray).size + Y.size ≤ 62) && (decide (1 ≤ ({ data := #[] } : ByteArray).size) && decide (1 ≤ Y.size))) = false by rw [decide_eq_false (show ¬ 1 ≤ ({ data := #[] } : ByteArray).size by decide)]; simp]
      have HB3 := Lib.hid (HB2.out.step (below_drew hb3) HB2.out.size)
      have HM3 := Lib.hid ((HB3.out.cell (p := ⟨1, 0, none⟩) HW0.out).trans HM.out)
      have HT3 := Lib.hid (HT.out.below HB3.out)
      clear hb3 HM2 HB2
      have HB4 := Lib.hid HB3.out
      have HM4 := Lib.hid HM3.out
      generalize hw4 : w3 = w4 at HB4 HM4 ⊢
      clear hw4 HM3 HB3 HT3
      go_wp2_with fail
      refine (HG.out _ w4 (by simp only [ByteArray.size_append]; show 1 + _ ≤ 100000; omega) HM4.out).mono ?_; rintro e w5 ⟨rfl, hb5⟩
      rw [good_9x HX.out]
      have HB5 := Lib.hid (HB4.out.step (below_drew hb5) HB4.out.size)
      have HM5 := Lib.hid ((HB5.out.cell (p := ⟨1, 0, none⟩) HW0.out).trans HM.out)
      clear hb5 HM4 HB4
      go_wp2_with fail
      refine (HG.out _ w5 (by simp only [ByteArray.size_append]; show 1 + _ ≤ 100000; omega) HM5.out).mono ?_; rintro e w6 ⟨rfl, hb6⟩
      rw [good_uy HY.out, decide_eq_false (show ¬ Y.size ≤ 62 by omega)]
      have HB6 := Lib.hid (HB5.out.step (below_drew hb6) HB5.out.size)
      clear hb6
      go_wp2_with fail
      go_ret
      exact ⟨rfl, HB6.out⟩
  · have hc1 : (1 : Int) ≤ X.size := by omega
    have hc3 : (X.size : Int) ≤ 63 := by omega
    rw [decide_eq_true hc, decide_eq_true hc2]
    rcases (by omega : Y.size < 1 ∨ (1 ≤ Y.size ∧ X.size + Y.size ≤ 62) ∨ (1 ≤ Y.size ∧ 62 < X.size + Y.size)) with hy1 | ⟨hy1, hy2⟩ | ⟨hy1, hy2⟩
    · have hy3 : (Y.size : Int) < 1 := by omega
      have hy : (Y.size : Int) ≤ 62 := by omega
      go_wp2_with fail
      refine (HG.out _ w2 (by simp only [ByteArray.size_append]; show _ + 1 + _ ≤ 100000; omega) HM2.out).mono ?_; rintro e w3 ⟨rfl, hb3⟩
      rw [good_xy HX.out HY.out, show (decide (X.size + Y.size ≤ 62) && (decide (1 ≤ X.size) && decide (1 ≤ Y.size))) = false by rw [decide_eq_false (show ¬ 1 ≤ Y.size by omega)]; simp]
      have HB3 := Lib.hid (HB2.out.step (below_drew hb3) HB2.out.size)
      have HM3 := Lib.hid ((HB3.out.cell (p := ⟨1, 0, none⟩) HW0.out).trans HM.out)
      have HT3 := Lib.hid (HT.out.below HB3.out)
      clear hb3 HM2 HB2
      have hx0 : ((X.size : Int) == 0) = false := beq_eq_false_iff_ne.2 (by omega)
      go_wp2_with fail
      refine (HI.out X w3 (by omega) HM3.out HT3.out).mono ?_; rintro e w4 ⟨rfl, hb4⟩
      rw [show identB (bytes X) = bytes X by rw [HX.out]; exact ident_as _ (by omega)]
      have hEX : (⟨(bytes X).toArray⟩ : ByteArray) = X := rfl
      rw [hEX]
      clear hEX
      have HB4 := Lib.hid (HB3.out.step hb4 HB3.out.size)
      have HM4 := Lib.hid ((HB4.out.cell (p := ⟨1, 0, none⟩) HW0.out).trans HM.out)
      clear hb4 HM3 HB3 HT3
      go_wp2_with fail
      refine (HG.out _ w4 (by simp only [ByteArray.size_append]; show 1 + _ ≤ 100000; omega) HM4.out).mono ?_; rintro e w5 ⟨rfl, hb5⟩
      rw [good_9x HX.out]
      have HB5 := Lib.hid (HB4.out.step (below_drew hb5) HB4.out.size)
      have HM5 := Lib.hid ((HB5.out.cell (p := ⟨1, 0, none⟩) HW0.out).trans HM.out)
      clear hb5 HM4 HB4
      go_wp2_with fail
      refine (HG.out _ w5 (by simp only [ByteArray.size_append]; show 1 + _ ≤ 100000; omega) HM5.out).mono ?_; rintro e w6 ⟨rfl, hb6⟩
      rw [good_uy HY.out, decide_eq_true (show Y.size ≤ 62 by omega)]
      have HB6 := Lib.hid (HB5.out.step (below_drew hb6) HB5.out.size)
      clear hb6
      go_wp2_with fail
      go_ret
      exact ⟨rfl, HB6.out⟩
    · have hy3 : (1 : Int) ≤ Y.size := by omega
      have hy4 : (X.size : Int) + Y.size ≤ 62 := by omega
      have hy : (Y.size : Int) ≤ 62 := by omega
      go_wp2_with fail
      refine (HG.out _ w2 (by simp only [ByteArray.size_append]; show _ + 1 + _ ≤ 100000; omega) HM2.out).mono ?_; rintro e w3 ⟨rfl, hb3⟩
      rw [good_xy HX.out HY.out, show (decide (X.size + Y.size ≤ 62) && (decide (1 ≤ X.size) && decide (1 ≤ Y.size))) = true by rw [decide_eq_true hy2, decide_eq_true hc, decide_eq_true hy1]; rfl]
      have HB3 := Lib.hid (HB2.out.step (below_drew hb3) HB2.out.size)
      have HM3 := Lib.hid ((HB3.out.cell (p := ⟨1, 0, none⟩) HW0.out).trans HM.out)
      have HT3 := Lib.hid (HT.out.below HB3.out)
      clear hb3 HM2 HB2
      have hx0 : ((X.size : Int) == 0) = false := beq_eq_false_iff_ne.2 (by omega)
      go_wp2_with fail
      refine (HI.out X w3 (by omega) HM3.out HT3.out).mono ?_; rintro e w4 ⟨rfl, hb4⟩
      rw [show identB (bytes X) = bytes X by rw [HX.out]; exact ident_as _ (by omega)]
      have hEX : (⟨(bytes X).toArray⟩ : ByteArray) = X := rfl
      rw [hEX]
      clear hEX
      have HB4 := Lib.hid (HB3.out.step hb4 HB3.out.size)
      have HM4 := Lib.hid ((HB4.out.cell (p := ⟨1, 0, none⟩) HW0.out).trans HM.out)
      clear hb4 HM3 HB3 HT3
      go_wp2_with fail
      refine (HG.out _ w4 (by simp only [ByteArray.size_append]; show 1 + _ ≤ 100000; omega) HM4.out).mono ?_; rintro e w5 ⟨rfl, hb5⟩
      rw [good_9x HX.out]
      have HB5 := Lib.hid (HB4.out.step (below_drew hb5) HB4.out.size)
      have HM5 := Lib.hid ((HB5.out.cell (p := ⟨1, 0, none⟩) HW0.out).trans HM.out)
      clear hb5 HM4 HB4
      go_wp2_with fail
      refine (HG.out _ w5 (by simp only [ByteArray.size_append]; show 1 + _ ≤ 100000; omega) HM5.out).mono ?_; rintro e w6 ⟨rfl, hb6⟩
      rw [good_uy HY.out, decide_eq_true (show Y.size ≤ 62 by omega)]
      have HB6 := Lib.hid (HB5.out.step (below_drew hb6) HB5.out.size)
      clear hb6
      go_wp2_with fail
      go_ret
      exact ⟨rfl, HB6.out⟩
    · have hy3 : (1 : Int) ≤ Y.size := by omega
      have hy4 : (62 : Int) < (X.size : Int) + Y.size := by omega
      have hyz : decide ((X.size : Int) + Y.size ≤ 62) = false := decide_eq_false (by omega)
      by_cases hy0 : Y.size ≤ 62
      · have hy : (Y.size : Int) ≤ 62 := by omega
        go_wp2_with fail
        refine (HG.out _ w2 (by simp only [ByteArray.size_append]; show _ + 1 + _ ≤ 100000; omega) HM2.out).mono ?_; rintro e w3 ⟨rfl, hb3⟩
        rw [good_xy HX.out HY.out, show (decide (X.size + Y.size ≤ 62) && (decide (1 ≤ X.size) && decide (1 ≤ Y.size))) = false by rw [decide_eq_false (show ¬ X.size + Y.size ≤ 62 by omega)]; rfl]
        have HB3 := Lib.hid (HB2.out.step (below_drew hb3) HB2.out.size)
        have HM3 := Lib.hid ((HB3.out.cell (p := ⟨1, 0, none⟩) HW0.out).trans HM.out)
        have HT3 := Lib.hid (HT.out.below HB3.out)
        clear hb3 HM2 HB2
        have hx0 : ((X.size : Int) == 0) = false := beq_eq_false_iff_ne.2 (by omega)
        go_wp2_with fail
        refine (HI.out X w3 (by omega) HM3.out HT3.out).mono ?_; rintro e w4 ⟨rfl, hb4⟩
        rw [show identB (bytes X) = bytes X by rw [HX.out]; exact ident_as _ (by omega)]
        have hEX : (⟨(bytes X).toArray⟩ : ByteArray) = X := rfl
        rw [hEX]
        clear hEX
        have HB4 := Lib.hid (HB3.out.step hb4 HB3.out.size)
        have HM4 := Lib.hid ((HB4.out.cell (p := ⟨1, 0, none⟩) HW0.out).trans HM.out)
        clear hb4 HM3 HB3 HT3
        go_wp2_with fail
        refine (HG.out _ w4 (by simp only [ByteArray.size_append]; show 1 + _ ≤ 100000; omega) HM4.out).mono ?_; rintro e w5 ⟨rfl, hb5⟩
        rw [good_9x HX.out]
        have HB5 := Lib.hid (HB4.out.step (below_drew hb5) HB4.out.size)
        have HM5 := Lib.hid ((HB5.out.cell (p := ⟨1, 0, none⟩) HW0.out).trans HM.out)
        clear hb5 HM4 HB4
        go_wp2_with fail
        refine (HG.out _ w5 (by simp only [ByteArray.size_append]; show 1 + _ ≤ 100000; omega) HM5.out).mono ?_; rintro e w6 ⟨rfl, hb6⟩
        rw [good_uy HY.out, decide_eq_true (show Y.size ≤ 62 by omega)]
        have HB6 := Lib.hid (HB5.out.step (below_drew hb6) HB5.out.size)
        clear hb6
        go_wp2_with fail
        go_ret
        exact ⟨rfl, HB6.out⟩
      · have hy : (62 : Int) < Y.size := by omega
        have hyd : decide ((Y.size : Int) ≤ 62) = false := decide_eq_false (by omega)
        go_wp2_with fail
        refine (HG.out _ w2 (by simp only [ByteArray.size_append]; show _ + 1 + _ ≤ 100000; omega) HM2.out).mono ?_; rintro e w3 ⟨rfl, hb3⟩
        rw [good_xy HX.out HY.out, show (decide (X.size + Y.size ≤ 62) && (decide (1 ≤ X.size) && decide (1 ≤ Y.size))) = false by rw [decide_eq_false (show ¬ X.size + Y.size ≤ 62 by omega)]; rfl]
        have HB3 := Lib.hid (HB2.out.step (below_drew hb3) HB2.out.size)
        have HM3 := Lib.hid ((HB3.out.cell (p := ⟨1, 0, none⟩) HW0.out).trans HM.out)
        have HT3 := Lib.hid (HT.out.below HB3.out)
        clear hb3 HM2 HB2
        have hx0 : ((X.size : Int) == 0) = false := beq_eq_false_iff_ne.2 (by omega)
        go_wp2_with fail
        refine (HI.out X w3 (by omega) HM3.out HT3.out).mono ?_; rintro e w4 ⟨rfl, hb4⟩
        rw [show identB (bytes X) = bytes X by rw [HX.out]; exact ident_as _ (by omega)]
        have hEX : (⟨(bytes X).toArray⟩ : ByteArray) = X := rfl
        rw [hEX]
        clear hEX
        have HB4 := Lib.hid (HB3.out.step hb4 HB3.out.size)
        have HM4 := Lib.hid ((HB4.out.cell (p := ⟨1, 0, none⟩) HW0.out).trans HM.out)
        clear hb4 HM3 HB3 HT3
        go_wp2_with fail
        refine (HG.out _ w4 (by simp only [ByteArray.size_append]; show 1 + _ ≤ 100000; omega) HM4.out).mono ?_; rintro e w5 ⟨rfl, hb5⟩
        rw [good_9x HX.out]
        have HB5 := Lib.hid (HB4.out.step (below_drew hb5) HB4.out.size)
        have HM5 := Lib.hid ((HB5.out.cell (p := ⟨1, 0, none⟩) HW0.out).trans HM.out)
        clear hb5 HM4 HB4
        go_wp2_with fail
        refine (HG.out _ w5 (by simp only [ByteArray.size_append]; show 1 + _ ≤ 100000; omega) HM5.out).mono ?_; rintro e w6 ⟨rfl, hb6⟩
        rw [good_uy HY.out, decide_eq_false (show ¬ Y.size ≤ 62 by omega)]
        have HB6 := Lib.hid (HB5.out.step (below_drew hb6) HB5.out.size)
        clear hb6
        go_wp2_with fail
        go_ret
        exact ⟨rfl, HB6.out⟩
  · have hc1 : (63 : Int) < X.size := by omega
    have hc4 : (1 : Int) ≤ X.size := by omega
    have hc5 : decide ((X.size : Int) ≤ 63) = false := by simp; omega
    rw [decide_eq_false (show ¬ X.size ≤ 63 by omega)]
    rcases (by omega : Y.size < 1 ∨ 1 ≤ Y.size) with hy1 | hy1
    · have hy3 : (Y.size : Int) < 1 := by omega
      have hy : (Y.size : Int) ≤ 62 := by omega
      go_wp2_with fail
      refine (HG.out _ w2 (by simp only [ByteArray.size_append]; show _ + 1 + _ ≤ 100000; omega) HM2.out).mono ?_; rintro e w3 ⟨rfl, hb3⟩
      rw [good_xy HX.out HY.out, show (decide (X.size + Y.size ≤ 62) && (decide (1 ≤ X.size) && decide (1 ≤ Y.size))) = false by rw [decide_eq_false (show ¬ 1 ≤ Y.size by omega)]; simp]
      have HB3 := Lib.hid (HB2.out.step (below_drew hb3) HB2.out.size)
      have HM3 := Lib.hid ((HB3.out.cell (p := ⟨1, 0, none⟩) HW0.out).trans HM.out)
      have HT3 := Lib.hid (HT.out.below HB3.out)
      clear hb3 HM2 HB2
      have hx0 : ((X.size : Int) == 0) = false := beq_eq_false_iff_ne.2 (by omega)
      go_wp2_with fail
      refine (HI.out X w3 (by omega) HM3.out HT3.out).mono ?_; rintro e w4 ⟨rfl, hb4⟩
      rw [show identB (bytes X) = bytes X by rw [HX.out]; exact ident_as _ (by omega)]
      have hEX : (⟨(bytes X).toArray⟩ : ByteArray) = X := rfl
      rw [hEX]
      clear hEX
      have HB4 := Lib.hid (HB3.out.step hb4 HB3.out.size)
      have HM4 := Lib.hid ((HB4.out.cell (p := ⟨1, 0, none⟩) HW0.out).trans HM.out)
      clear hb4 HM3 HB3 HT3
      go_wp2_with fail
      refine (HG.out _ w4 (by simp only [ByteArray.size_append]; show 1 + _ ≤ 100000; omega) HM4.out).mono ?_; rintro e w5 ⟨rfl, hb5⟩
      rw [good_9x HX.out]
      have HB5 := Lib.hid (HB4.out.step (below_drew hb5) HB4.out.size)
      have HM5 := Lib.hid ((HB5.out.cell (p := ⟨1, 0, none⟩) HW0.out).trans HM.out)
      clear hb5 HM4 HB4
      go_wp2_with fail
      refine (HG.out _ w5 (by simp only [ByteArray.size_append]; show 1 + _ ≤ 100000; omega) HM5.out).mono ?_; rintro e w6 ⟨rfl, hb6⟩
      rw [good_uy HY.out, decide_eq_true (show Y.size ≤ 62 by omega)]
      have HB6 := Lib.hid (HB5.out.step (below_drew hb6) HB5.out.size)
      clear hb6
      go_wp2_with fail
      go_ret
      exact ⟨rfl, HB6.out⟩
    · have hy3 : (1 : Int) ≤ Y.size := by omega
      have hy4 : (62 : Int) < (X.size : Int) + Y.size := by omega
      have hyz : decide ((X.size : Int) + Y.size ≤ 62) = false := decide_eq_false (by omega)
      by_cases hy0 : Y.size ≤ 62
      · have hy : (Y.size : Int) ≤ 62 := by omega
        go_wp2_with fail
        refine (HG.out _ w2 (by simp only [ByteArray.size_append]; show _ + 1 + _ ≤ 100000; omega) HM2.out).mono ?_; rintro e w3 ⟨rfl, hb3⟩
        rw [good_xy HX.out HY.out, show (decide (X.size + Y.size ≤ 62) && (decide (1 ≤ X.size) && decide (1 ≤ Y.size))) = false by rw [decide_eq_false (show ¬ X.size + Y.size ≤ 62 by omega)]; rfl]
        have HB3 := Lib.hid (HB2.out.step (below_drew hb3) HB2.out.size)
        have HM3 := Lib.hid ((HB3.out.cell (p := ⟨1, 0, none⟩) HW0.out).trans HM.out)
        have HT3 := Lib.hid (HT.out.below HB3.out)
        clear hb3 HM2 HB2
        have hx0 : ((X.size : Int) == 0) = false := beq_eq_false_iff_ne.2 (by omega)
        go_wp2_with fail
        refine (HI.out X w3 (by omega) HM3.out HT3.out).mono ?_; rintro e w4 ⟨rfl, hb4⟩
        rw [show identB (bytes X) = bytes X by rw [HX.out]; exact ident_as _ (by omega)]
        have hEX : (⟨(bytes X).toArray⟩ : ByteArray) = X := rfl
        rw [hEX]
        clear hEX
        have HB4 := Lib.hid (HB3.out.step hb4 HB3.out.size)
        have HM4 := Lib.hid ((HB4.out.cell (p := ⟨1, 0, none⟩) HW0.out).trans HM.out)
        clear hb4 HM3 HB3 HT3
        go_wp2_with fail
        refine (HG.out _ w4 (by simp only [ByteArray.size_append]; show 1 + _ ≤ 100000; omega) HM4.out).mono ?_; rintro e w5 ⟨rfl, hb5⟩
        rw [good_9x HX.out]
        have HB5 := Lib.hid (HB4.out.step (below_drew hb5) HB4.out.size)
        have HM5 := Lib.hid ((HB5.out.cell (p := ⟨1, 0, none⟩) HW0.out).trans HM.out)
        clear hb5 HM4 HB4
        go_wp2_with fail
        refine (HG.out _ w5 (by simp only [ByteArray.size_append]; show 1 + _ ≤ 100000; omega) HM5.out).mono ?_; rintro e w6 ⟨rfl, hb6⟩
        rw [good_uy HY.out, decide_eq_true (show Y.size ≤ 62 by omega)]
        have HB6 := Lib.hid (HB5.out.step (below_drew hb6) HB5.out.size)
        clear hb6
        go_wp2_with fail
        go_ret
        exact ⟨rfl, HB6.out⟩
      · have hy : (62 : Int) < Y.size := by omega
        have hyd : decide ((Y.size : Int) ≤ 62) = false := decide_eq_false (by omega)
        go_wp2_with fail
        refine (HG.out _ w2 (by simp only [ByteArray.size_append]; show _ + 1 + _ ≤ 100000; omega) HM2.out).mono ?_; rintro e w3 ⟨rfl, hb3⟩
        rw [good_xy HX.out HY.out, show (decide (X.size + Y.size ≤ 62) && (decide (1 ≤ X.size) && decide (1 ≤ Y.size))) = false by rw [decide_eq_false (show ¬ X.size + Y.size ≤ 62 by omega)]; rfl]
        have HB3 := Lib.hid (HB2.out.step (below_drew hb3) HB2.out.size)
        have HM3 := Lib.hid ((HB3.out.cell (p := ⟨1, 0, none⟩) HW0.out).trans HM.out)
        have HT3 := Lib.hid (HT.out.below HB3.out)
        clear hb3 HM2 HB2
        have hx0 : ((X.size : Int) == 0) = false := beq_eq_false_iff_ne.2 (by omega)
        go_wp2_with fail
        refine (HI.out X w3 (by omega) HM3.out HT3.out).mono ?_; rintro e w4 ⟨rfl, hb4⟩
        rw [show identB (bytes X) = bytes X by rw [HX.out]; exact ident_as _ (by omega)]
        have hEX : (⟨(bytes X).toArray⟩ : ByteArray) = X := rfl
        rw [hEX]
        clear hEX
        have HB4 := Lib.hid (HB3.out.step hb4 HB3.out.size)
        have HM4 := Lib.hid ((HB4.out.cell (p := ⟨1, 0, none⟩) HW0.out).trans HM.out)
        clear hb4 HM3 HB3 HT3
        go_wp2_with fail
        refine (HG.out _ w4 (by simp only [ByteArray.size_append]; show 1 + _ ≤ 100000; omega) HM4.out).mono ?_; rintro e w5 ⟨rfl, hb5⟩
        rw [good_9x HX.out]
        have HB5 := Lib.hid (HB4.out.step (below_drew hb5) HB4.out.size)
        have HM5 := Lib.hid ((HB5.out.cell (p := ⟨1, 0, none⟩) HW0.out).trans HM.out)
        clear hb5 HM4 HB4
        go_wp2_with fail
        refine (HG.out _ w5 (by simp only [ByteArray.size_append]; show 1 + _ ≤ 100000; omega) HM5.out).mono ?_; rintro e w6 ⟨rfl, hb6⟩
        rw [good_uy HY.out, decide_eq_false (show ¬ Y.size ≤ 62 by omega)]
        have HB6 := Lib.hid (HB5.out.step (below_drew hb6) HB5.out.size)
        clear hb6
        go_wp2_with fail
        go_ret
        exact ⟨rfl, HB6.out⟩

set_option maxRecDepth 100000 in
theorem long_lifted (os : Os) (started : os.Started) (H : Type) (enc : TypeId × Value → H) :
    ReturnsInHanded {} Tryd.checked os 8 .any (fun w args => (Rows.namesLongSpec.pre enc Tryd.prog Tryd.f8 Rows.namesLongRow.domain false w args ∧ laidMetH Tryd.prog [("unicode/utf8.acceptRanges", Rows.laid_unicode_utf8_acceptRanges), ("taxirank/names.taken", Rows.laid_taxirank_names_taken), ("unicode/utf8.first", Rows.laid_unicode_utf8_first)] w) ∧ sizedMet enc Tryd.prog Tryd.f8 (OpenSpec.ofChange Rows.namesLongSpec) false w args) (Rows.namesLongSpec.post enc Tryd.prog Tryd.f8 false true false false) := by
  refine handed_laid (C := Tryd.checked) (X := fun w _ => laidMetH Tryd.prog [("unicode/utf8.acceptRanges", Rows.laid_unicode_utf8_acceptRanges), ("taxirank/names.taken", Rows.laid_taxirank_names_taken), ("unicode/utf8.first", Rows.laid_unicode_utf8_first)] w) (fun _ _ _ hh h => h.of_heap hh) own started (by kernel_rfl) Tryd.func8
    (ChangeSpec.witness_shaped (enc := enc) (C := Tryd.checked) (os := os) (X := fun w _ => laidMetH Tryd.prog [("unicode/utf8.acceptRanges", Rows.laid_unicode_utf8_acceptRanges), ("taxirank/names.taken", Rows.laid_taxirank_names_taken), ("unicode/utf8.first", Rows.laid_unicode_utf8_first)] w) false (World.laidAll Tryd.prog os [("unicode/utf8.acceptRanges", Rows.laid_unicode_utf8_acceptRanges), ("taxirank/names.taken", Rows.laid_taxirank_names_taken), ("unicode/utf8.first", Rows.laid_unicode_utf8_first)]) #[.int .i64 0, .int .i64 0] 8 (World.laidAll_os _ _ _) (World.shaped_of_ZipB (by kernel_rfl) (by kernel_rfl)) (by kernel_rfl) (by kernel_rfl) (by kernel_rfl)
      (by rw [MakeChecks.laidMetH_plain _ _ _ (by kernel_rfl)]; exact laidMet_laidAll _ (by kernel_rfl) (by kernel_rfl))) ?_
  intro W base args ds gs before hval0 hW hsz0 hsh hL
  obtain ⟨m, hm⟩ : ∃ m, W.cell? ⟨1, 0, none⟩ = some (.int .i64 m) := Tryd.laysM143.s1_3 W hsh
  have hT := taken_of_laid hL
  have hsz : (DataW.weightsEach Tryd.prog (Tryd.f8.params.toList ++ Rows.namesLongSpec.plain.varTypes Tryd.prog) (ds ++ gs)).all (· ≤ reachBytes) = true := hsz0
  clear hsz0
  have hval : ∀ (j : Nat) t v, Tryd.f8.params[j]? = some t → args[j]? = some v → Value.okWide Tryd.prog W .any base t v := hval0
  have hW' := hW
  obtain ⟨p, q, hA0, hV, rfl, _, _⟩ := hW
  have hA : DataW.TrodAll enc Tryd.prog W 0 (fun _ => true) true Tryd.f8.params.toList args.toList ds p := hA0
  rw [Tryd.params8] at hA hval hsz
  obtain ⟨v0, v1, d0, d1, p0, p1, rfl, rfl, rfl, h0, h1⟩ := trodAll_two hA
  obtain ⟨rfl, rfl⟩ := trodVars_none hV
  obtain ⟨a, rfl, rfl, rfl, wf_a⟩ := open_int Tryd.underlying3 (hval 0 3 v0 rfl rfl) h0
  have h_a := int_range wf_a
  obtain ⟨b, rfl, rfl, rfl, wf_b⟩ := open_int Tryd.underlying3 (hval 1 3 v1 rfl rfl) h1
  have h_b := int_range wf_b
  refine (long_ok a b m W h_a h_b hm hT).mono fun e W' ⟨he, hb⟩ => ?_
  subst he
  exact ⟨_, rfl, law_shut laidOut (by kernel_rfl) (by kernel_rfl) Tryd.underlying4 rfl hW' rfl hb⟩

theorem long_holds : Rows.NamesLongSaid :=
  OpenClaim.holds_of_wide 8 Tryd.f8 rfl rfl rfl rfl rfl rfl rfl ⟨rfl, rfl, rfl, rfl, rfl⟩ rfl rfl rfl rfl rfl (by kernel_rfl) Tryd.func8 (by kernel_rfl)
    (of_decide_eq_true (by kernel_rfl)) (by unfold Func.isWrapper; rw [if_neg (of_decide_eq_false (by kernel_rfl))]; exact ⟨rfl, rfl⟩)
    (fun os started H enc _ => long_lifted os started H enc)

theorem long_card : Rows.NamesLongCardSaid :=
  Claim7.holds_tied_plain_at .later [] [.data, .data, .pinned] true _ false long_holds (fun _ h => by cases h) (by kernel_rfl) (fun _ h => by cases h) namesLong_row_tie rfl ⟨rfl, rfl⟩ (by kernel_rfl) rfl
    (fun f fn hf hfn => by
      obtain rfl : f = 8 := Option.some.inj ((show Tryd.prog.funcNamed "taxirank/taxiranklaw7.NamesLong" = some 8 by kernel_rfl).symm.trans hf) |>.symm
      obtain rfl : fn = Tryd.f8 := (Option.some.inj (Tryd.func8.symm.trans hfn)).symm
      exact ⟨by kernel_rfl, fun j t ht => by
        rw [Tryd.params8] at ht
        have hm : t ∈ [3, 3] := by simpa using Array.mem_of_getElem? ht
        have hall : ([3, 3].all fun u => !Tryd.prog.wantsStandIn u) = true := by kernel_rfl
        exact (show Tryd.prog.wantsStandIn t = false by simpa using List.all_eq_true.1 hall t hm)⟩)
    (by kernel_rfl)
end Go.Proofs.YtalnflfafapicaaDoor
