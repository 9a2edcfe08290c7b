/- A statement that begins with no word of the table is another one, whatever is behind: ParseOthers answers true, and leaves what was there as it was. (Over the listed variable, tied to the program's text.) -/
import Derived.Test.YtgopajddloeclaaDoorZ12
import Derived.Test.YtgopajddloeclaaDoorZ25
import Derived.Test.YtgopajddloeclaaDoorLPOthersM
import Derived.Deep.RegionHeld3
namespace Go.Proofs.YtgopajddloeclaaDoor
open Go.RowKit Go.Lib Go.WideShapes Go.ChangeShapes Go.ChangeAt Go.Joins

def othS : Nat → ByteArray
  | 0 => { data := #[115, 101, 108, 101, 99, 116] }
  | 1 => { data := #[73, 110, 115, 101, 114, 116] }
  | 2 => { data := #[117, 112, 100, 97, 116, 101] }
  | 3 => { data := #[119, 105, 116, 104] }
  | _ => { data := #[118, 97, 99, 117, 117, 109] }
theorem othS_bytes (i : Nat) (h : i < 5) : bytes (othS i) = othT.getD i [] ∧ (othS i).size ≤ 6 := by
  rcases (by omega : i = 0 ∨ i = 1 ∨ i = 2 ∨ i = 3 ∨ i = 4) with rfl | rfl | rfl | rfl | rfl <;> exact ⟨rfl, by decide⟩
theorem othS_cell (w : World) (i : Nat) (h : i < 5) (u : TypeId) : (w.alloc (.cells #[.string { data := #[115, 101, 108, 101, 99, 116] }, .string { data := #[73, 110, 115, 101, 114, 116] }, .string { data := #[117, 112, 100, 97, 116, 101] }, .string { data := #[119, 105, 116, 104] }, .string { data := #[118, 97, 99, 117, 117, 109] }] u)).cell? ⟨w.heap.size, i, none⟩ = some (.string (othS i)) := by
  rcases (by omega : i = 0 ∨ i = 1 ∨ i = 2 ∨ i = 3 ∨ i = 4) with rfl | rfl | rfl | rfl | rfl <;> exact World.cell?_alloc_new _ _ _ _
theorem oth_low (i : Nat) (h : i < 5) : (othT.getD i []).map low = othK.getD i [] := by
  rcases (by omega : i = 0 ∨ i = 1 ∨ i = 2 ∨ i = 3 ∨ i = 4) with rfl | rfl | rfl | rfl | rfl <;> rfl

set_option maxRecDepth 100000 in
set_option maxHeartbeats 4000000 in
theorem others_pos (k : Int) (more : ByteArray) (m : Int) (w : World) (hmo : (more.size : Int) ≤ 500) (hk1 : -9223372036854775808 ≤ k) (hk2 : k ≤ 9223372036854775807) (hk : 0 ≤ k) (hm : w.cell? ⟨2, 0, none⟩ = some (.int .i64 m)) (hbar : BarredAt w) :
    Calls Tryd.prog 7 #[.int .i64 k, .string more] w fun e w' => e = .returned (.bool true) ∧ Below w.heap.size w w' := by
  have HW0 := Lib.hid (World.block_lt_of_cell? w ⟨2, 0, none⟩ hm)
  have HSH := Lib.hid (shown9_true m w hm hbar)
  have HP := Lib.hid (fun (S : ByteArray) (W : World) h1 h2 h3 => parse_any S m W h1 h2 h3)
  have HSP := Lib.hid (fun (S : ByteArray) (W : World) h1 h2 => split_any S m W h1 h2)
  have HM := Lib.hid hm; have HBR := Lib.hid hbar
  have r0 : 0 ≤ k % 5 := by omega
  have r1 : k % 5 < 5 := by omega
  have HJ := Lib.hid (show (k % 5).toNat < 5 by omega)
  clear hm hbar
  go_enter Tryd.func7, Tryd.ntmps7
  go_wp2_with fail
  refine HSH.out.mono ?_; rintro e w1 ⟨rfl, hb1⟩
  have HB1 := Lib.hid hb1
  clear hb1 HSH
  go_upto_region 8 with (fail)
  have HWC := Lib.hid (othS_cell w1 (k % 5).toNat HJ.out 9)
  have HB2 := Lib.hid (HB1.out.alloc HB1.out.size (Obj.cells #[.string { data := #[115, 101, 108, 101, 99, 116] }, .string { data := #[73, 110, 115, 101, 114, 116] }, .string { data := #[117, 112, 100, 97, 116, 101] }, .string { data := #[119, 105, 116, 104] }, .string { data := #[118, 97, 99, 117, 117, 109] }] 9))
  have hg2 : w1.heap.size < (w1.alloc (Obj.cells #[.string { data := #[115, 101, 108, 101, 99, 116] }, .string { data := #[73, 110, 115, 101, 114, 116] }, .string { data := #[117, 112, 100, 97, 116, 101] }, .string { data := #[119, 105, 116, 104] }, .string { data := #[118, 97, 99, 117, 117, 109] }] 9)).heap.size := by simp
  generalize w1.alloc (Obj.cells #[.string { data := #[115, 101, 108, 101, 99, 116] }, .string { data := #[73, 110, 115, 101, 114, 116] }, .string { data := #[117, 112, 100, 97, 116, 101] }, .string { data := #[119, 105, 116, 104] }, .string { data := #[118, 97, 99, 117, 117, 109] }] 9) = w2 at HWC HB2 hg2 ⊢
  have HOB := Lib.hid (othS_bytes (k % 5).toNat HJ.out)
  have ho6 := HOB.out.2
  have d1 := HWC.out
  have HOT := Lib.hid (fun (r : Bs) (T : List Tok) h => oth_parsed (k % 5).toNat HJ.out (r := r) (T := T) h)
  have HOL := Lib.hid (oth_low (k % 5).toNat HJ.out)
  clear HWC
  generalize othS (k % 5).toNat = O at d1 HOB ho6
  generalize hO1 : othT.getD (k % 5).toNat [] = oT at HOB HOT HOL
  generalize hO2 : othK.getD (k % 5).toNat [] = oK at HOT HOL
  clear hO1 hO2
  have HSB := Lib.hid (show bytes ((O ++ ({ data := #[32] } : ByteArray)) ++ more) = oT ++ 32 :: bytes more by rw [p_cat, p_cat, HOB.out.1]; simp [bytes])
  have hsz : ((O ++ ({ data := #[32] } : ByteArray)) ++ more).size ≤ 2000 := by rw [ByteArray.size_append, ByteArray.size_append]; show O.size + 1 + more.size ≤ _; omega
  have HSZ := Lib.hid hsz
  clear hsz
  go_wp2_with fail
  refine (HP.out _ w2 HSZ.out ((HB2.out.cell (p := ⟨2, 0, none⟩) HW0.out).trans HM.out) (HBR.out.step HB2.out)).mono ?_; rintro e w3 ⟨rfl, hb3⟩
  obtain ⟨cm, hcm⟩ : ∃ cm, cm = (parsedC (bytes ((O ++ ({ data := #[32] } : ByteArray)) ++ more))).1 := ⟨_, rfl⟩
  obtain ⟨en, hen⟩ : ∃ en, en = (parsedC (bytes ((O ++ ({ data := #[32] } : ByteArray)) ++ more))).2 := ⟨_, rfl⟩
  rw [← hcm, ← hen]
  have HCM := Lib.hid hcm; have HEN := Lib.hid hen
  have HB3 := Lib.hid (HB2.out.step hb3 HB2.out.size)
  have HM3 := Lib.hid ((HB3.out.cell (p := ⟨2, 0, none⟩) HW0.out).trans HM.out)
  have hg3 : w1.heap.size < w3.heap.size := Nat.lt_of_lt_of_le hg2 hb3.size
  have d3 : w3.cell? ⟨w1.heap.size, (k % 5).toNat, none⟩ = some (.string O) := (hb3.cell (p := ⟨w1.heap.size, (k % 5).toNat, none⟩) hg2).trans d1
  have HSL := Lib.hid (show (bytes ((O ++ ({ data := #[32] } : ByteArray)) ++ more)).length ≤ 2000 by rw [bytes_len]; exact HSZ.out)
  clear hcm hen hb3 d1 HP HB2 HBR
  unfold Cmd.val
  go_wp2_with fail
  refine (HSP.out _ _ HSZ.out (Lib.cell?_alloc_some _ HM3.out)).mono ?_; rintro e w5 ⟨hb5, hcs⟩
  have hzz : w3.heap.size < (w3.alloc (.cells #[.int .u8 (cm.kind.toNat : Nat), .string ⟨cm.name.toArray⟩, .string ⟨cm.value.toArray⟩] 27)).heap.size := by simp
  have e0 : w5.cell? ⟨w3.heap.size, 0, none⟩ = some (.int .u8 (cm.kind.toNat : Nat)) := (hb5.cell (p := ⟨w3.heap.size, 0, none⟩) hzz).trans (World.cell?_alloc_new _ _ _ _)
  have e1 : w5.cell? ⟨w3.heap.size, 1, none⟩ = some (.string ⟨cm.name.toArray⟩) := (hb5.cell (p := ⟨w3.heap.size, 1, none⟩) hzz).trans (World.cell?_alloc_new _ _ _ _)
  have e2 : w5.cell? ⟨w3.heap.size, 2, none⟩ = some (.string ⟨cm.value.toArray⟩) := (hb5.cell (p := ⟨w3.heap.size, 2, none⟩) hzz).trans (World.cell?_alloc_new _ _ _ _)
  have hg5 : w3.heap.size < w5.heap.size := Nat.lt_of_lt_of_le hzz hb5.size
  have d5 : w5.cell? ⟨w1.heap.size, (k % 5).toNat, none⟩ = some (.string O) := (hb5.cell (p := ⟨w1.heap.size, (k % 5).toNat, none⟩) (Nat.lt_trans hg3 hzz)).trans (Lib.cell?_alloc_some _ d3)
  have HB5 := Lib.hid (HB3.out.step (((Below.refl _ w3).alloc (Nat.le_refl _) _).step hb5 (Nat.le_of_lt hzz)) HB3.out.size)
  clear hb5 d3 HM3 HSP
  rcases hcs with ⟨hT, rfl⟩ | ⟨T, xs, n, p, c, hT, hxs, hn, hn1, hnc, rfl, hst, hin⟩
  · have hq := parsed_none HSL.out hT
    obtain rfl : cm = noCmd := by rw [HCM.out, hq]
    obtain rfl : en = 2 := by rw [HEN.out, hq]
    clear hT hq
    go_wp2_with fail
    go_ret
    exact ⟨rfl, HB5.out⟩
  · have hq := parsed_tokens HSL.out hT
    obtain rfl : en = 0 := by rw [HEN.out, hq]
    have HTT := Lib.hid (HOT.out _ T (by rw [← HSB.out]; exact hT))
    have HC2 := Lib.hid (show cm = parsedT T by rw [HCM.out, hq])
    have hnl : (splits T).length = n := by rw [← hxs, List.length_map]; exact hn
    have HNL := Lib.hid hnl
    clear hT hq hst hin hxs hn HOT hnl
    by_cases h1 : 1 < n
    · obtain rfl : cm = ⟨109, [], []⟩ := by rw [HC2.out, HTT.out.1, if_neg (by rw [HNL.out]; omega)]
      have h1' : (1 : Int) < n := by omega
      go_wp2_with fail
      go_ret
      exact ⟨rfl, HB5.out⟩
    · obtain rfl : n = 1 := by have := HTT.out.2; rw [HNL.out] at this; omega
      obtain rfl : cm = ⟨111, oK, []⟩ := by rw [HC2.out, HTT.out.1, if_pos HNL.out]
      have HFO := Lib.hid (fun W => fold_any O W (by omega))
      have HOO := Lib.hid (show (⟨((bytes O).map low).toArray⟩ : ByteArray) = ⟨oK.toArray⟩ by rw [HOB.out.1, HOL.out])
      rw [HOO.out] at HFO
      clear h1
      go_wp2_with fail
      have HKEEP := Lib.hid (show ∀ W, Below w5.heap.size w5 W → ((W.cell? ⟨w3.heap.size, 0, none⟩ = some (.int .u8 111) ∧ W.cell? ⟨w3.heap.size, 1, none⟩ = some (.string ⟨oK.toArray⟩) ∧ W.cell? ⟨w3.heap.size, 2, none⟩ = some (.string { data := #[] }) ∧ W.cell? ⟨w1.heap.size, (k % 5).toNat, none⟩ = some (.string O)) ∧ Below w5.heap.size w5 W) from fun W h => ⟨⟨(h.cell (p := ⟨w3.heap.size, 0, none⟩) hg5).trans e0, (h.cell (p := ⟨w3.heap.size, 1, none⟩) hg5).trans e1, (h.cell (p := ⟨w3.heap.size, 2, none⟩) hg5).trans e2, (h.cell (p := ⟨w1.heap.size, (k % 5).toNat, none⟩) (Nat.lt_trans hg3 hg5)).trans d5⟩, h⟩)
      have S0 := HKEEP.out w5 (Below.refl _ _)
      have t9 : k.tmod 5 = k % 5 := Int.tmod_eq_emod_of_nonneg (by omega)
      go_region_held3 (fun W => (W.cell? ⟨w3.heap.size, 0, none⟩ = some (.int .u8 111) ∧ W.cell? ⟨w3.heap.size, 1, none⟩ = some (.string ⟨oK.toArray⟩) ∧ W.cell? ⟨w3.heap.size, 2, none⟩ = some (.string { data := #[] }) ∧ W.cell? ⟨w1.heap.size, (k % 5).toNat, none⟩ = some (.string O)) ∧ Below w5.heap.size w5 W) (first | exact S1 | exact HKEEP.out _ S0.2.drew)
        (first | (go_at_call 24; refine (HFO.out _).mono ?_; rintro e w6 ⟨rfl, hb6⟩; have S1 := HKEEP.out w6 (S0.2.drew.step hb6 (Nat.le_refl _))))
      go_wp2_with fail
      go_ret
      exact ⟨rfl, HB5.out.step S1.2 HB5.out.size⟩

set_option maxRecDepth 100000 in
set_option maxHeartbeats 4000000 in
theorem others_neg (k : Int) (more : ByteArray) (m : Int) (w : World) (hmo : (more.size : Int) ≤ 500) (hk1 : -9223372036854775808 ≤ k) (hk2 : k ≤ 9223372036854775807) (hk : k < 0) (hm : w.cell? ⟨2, 0, none⟩ = some (.int .i64 m)) (hbar : BarredAt w) :
    Calls Tryd.prog 7 #[.int .i64 k, .string more] w fun e w' => e = .returned (.bool true) ∧ Below w.heap.size w w' := by
  have HW0 := Lib.hid (World.block_lt_of_cell? w ⟨2, 0, none⟩ hm)
  have HSH := Lib.hid (shown9_true m w hm hbar)
  have HP := Lib.hid (fun (S : ByteArray) (W : World) h1 h2 h3 => parse_any S m W h1 h2 h3)
  have HSP := Lib.hid (fun (S : ByteArray) (W : World) h1 h2 => split_any S m W h1 h2)
  have HM := Lib.hid hm; have HBR := Lib.hid hbar
  have r9 : (k + 1).tmod 5 = -((-(k + 1)) % 5) := by
    rw [← Int.tmod_eq_emod_of_nonneg (by omega), Int.neg_tmod]; omega
  have r0 : (k + 1).tmod 5 ≤ 0 := by omega
  have r1 : -(k + 1).tmod 5 < 5 := by omega
  clear r9
  have HJ := Lib.hid (show (-(k + 1).tmod 5).toNat < 5 by omega)
  clear hm hbar
  go_enter Tryd.func7, Tryd.ntmps7
  go_wp2_with fail
  refine HSH.out.mono ?_; rintro e w1 ⟨rfl, hb1⟩
  have HB1 := Lib.hid hb1
  clear hb1 HSH
  go_upto_region 8 with (fail)
  have HWC := Lib.hid (othS_cell w1 (-(k + 1).tmod 5).toNat HJ.out 9)
  have HB2 := Lib.hid (HB1.out.alloc HB1.out.size (Obj.cells #[.string { data := #[115, 101, 108, 101, 99, 116] }, .string { data := #[73, 110, 115, 101, 114, 116] }, .string { data := #[117, 112, 100, 97, 116, 101] }, .string { data := #[119, 105, 116, 104] }, .string { data := #[118, 97, 99, 117, 117, 109] }] 9))
  have hg2 : w1.heap.size < (w1.alloc (Obj.cells #[.string { data := #[115, 101, 108, 101, 99, 116] }, .string { data := #[73, 110, 115, 101, 114, 116] }, .string { data := #[117, 112, 100, 97, 116, 101] }, .string { data := #[119, 105, 116, 104] }, .string { data := #[118, 97, 99, 117, 117, 109] }] 9)).heap.size := by simp
  generalize w1.alloc (Obj.cells #[.string { data := #[115, 101, 108, 101, 99, 116] }, .string { data := #[73, 110, 115, 101, 114, 116] }, .string { data := #[117, 112, 100, 97, 116, 101] }, .string { data := #[119, 105, 116, 104] }, .string { data := #[118, 97, 99, 117, 117, 109] }] 9) = w2 at HWC HB2 hg2 ⊢
  have HOB := Lib.hid (othS_bytes (-(k + 1).tmod 5).toNat HJ.out)
  have ho6 := HOB.out.2
  have d1 := HWC.out
  have HOT := Lib.hid (fun (r : Bs) (T : List Tok) h => oth_parsed (-(k + 1).tmod 5).toNat HJ.out (r := r) (T := T) h)
  have HOL := Lib.hid (oth_low (-(k + 1).tmod 5).toNat HJ.out)
  clear HWC
  generalize othS (-(k + 1).tmod 5).toNat = O at d1 HOB ho6
  generalize hO1 : othT.getD (-(k + 1).tmod 5).toNat [] = oT at HOB HOT HOL
  generalize hO2 : othK.getD (-(k + 1).tmod 5).toNat [] = oK at HOT HOL
  clear hO1 hO2
  have HSB := Lib.hid (show bytes ((O ++ ({ data := #[32] } : ByteArray)) ++ more) = oT ++ 32 :: bytes more by rw [p_cat, p_cat, HOB.out.1]; simp [bytes])
  have hsz : ((O ++ ({ data := #[32] } : ByteArray)) ++ more).size ≤ 2000 := by rw [ByteArray.size_append, ByteArray.size_append]; show O.size + 1 + more.size ≤ _; omega
  have HSZ := Lib.hid hsz
  clear hsz
  go_wp2_with fail
  refine (HP.out _ w2 HSZ.out ((HB2.out.cell (p := ⟨2, 0, none⟩) HW0.out).trans HM.out) (HBR.out.step HB2.out)).mono ?_; rintro e w3 ⟨rfl, hb3⟩
  obtain ⟨cm, hcm⟩ : ∃ cm, cm = (parsedC (bytes ((O ++ ({ data := #[32] } : ByteArray)) ++ more))).1 := ⟨_, rfl⟩
  obtain ⟨en, hen⟩ : ∃ en, en = (parsedC (bytes ((O ++ ({ data := #[32] } : ByteArray)) ++ more))).2 := ⟨_, rfl⟩
  rw [← hcm, ← hen]
  have HCM := Lib.hid hcm; have HEN := Lib.hid hen
  have HB3 := Lib.hid (HB2.out.step hb3 HB2.out.size)
  have HM3 := Lib.hid ((HB3.out.cell (p := ⟨2, 0, none⟩) HW0.out).trans HM.out)
  have hg3 : w1.heap.size < w3.heap.size := Nat.lt_of_lt_of_le hg2 hb3.size
  have d3 : w3.cell? ⟨w1.heap.size, (-(k + 1).tmod 5).toNat, none⟩ = some (.string O) := (hb3.cell (p := ⟨w1.heap.size, (-(k + 1).tmod 5).toNat, none⟩) hg2).trans d1
  have HSL := Lib.hid (show (bytes ((O ++ ({ data := #[32] } : ByteArray)) ++ more)).length ≤ 2000 by rw [bytes_len]; exact HSZ.out)
  clear hcm hen hb3 d1 HP HB2 HBR
  unfold Cmd.val
  go_wp2_with fail
  refine (HSP.out _ _ HSZ.out (Lib.cell?_alloc_some _ HM3.out)).mono ?_; rintro e w5 ⟨hb5, hcs⟩
  have hzz : w3.heap.size < (w3.alloc (.cells #[.int .u8 (cm.kind.toNat : Nat), .string ⟨cm.name.toArray⟩, .string ⟨cm.value.toArray⟩] 27)).heap.size := by simp
  have e0 : w5.cell? ⟨w3.heap.size, 0, none⟩ = some (.int .u8 (cm.kind.toNat : Nat)) := (hb5.cell (p := ⟨w3.heap.size, 0, none⟩) hzz).trans (World.cell?_alloc_new _ _ _ _)
  have e1 : w5.cell? ⟨w3.heap.size, 1, none⟩ = some (.string ⟨cm.name.toArray⟩) := (hb5.cell (p := ⟨w3.heap.size, 1, none⟩) hzz).trans (World.cell?_alloc_new _ _ _ _)
  have e2 : w5.cell? ⟨w3.heap.size, 2, none⟩ = some (.string ⟨cm.value.toArray⟩) := (hb5.cell (p := ⟨w3.heap.size, 2, none⟩) hzz).trans (World.cell?_alloc_new _ _ _ _)
  have hg5 : w3.heap.size < w5.heap.size := Nat.lt_of_lt_of_le hzz hb5.size
  have d5 : w5.cell? ⟨w1.heap.size, (-(k + 1).tmod 5).toNat, none⟩ = some (.string O) := (hb5.cell (p := ⟨w1.heap.size, (-(k + 1).tmod 5).toNat, none⟩) (Nat.lt_trans hg3 hzz)).trans (Lib.cell?_alloc_some _ d3)
  have HB5 := Lib.hid (HB3.out.step (((Below.refl _ w3).alloc (Nat.le_refl _) _).step hb5 (Nat.le_of_lt hzz)) HB3.out.size)
  clear hb5 d3 HM3 HSP
  rcases hcs with ⟨hT, rfl⟩ | ⟨T, xs, n, p, c, hT, hxs, hn, hn1, hnc, rfl, hst, hin⟩
  · have hq := parsed_none HSL.out hT
    obtain rfl : cm = noCmd := by rw [HCM.out, hq]
    obtain rfl : en = 2 := by rw [HEN.out, hq]
    clear hT hq
    go_wp2_with fail
    go_ret
    exact ⟨rfl, HB5.out⟩
  · have hq := parsed_tokens HSL.out hT
    obtain rfl : en = 0 := by rw [HEN.out, hq]
    have HTT := Lib.hid (HOT.out _ T (by rw [← HSB.out]; exact hT))
    have HC2 := Lib.hid (show cm = parsedT T by rw [HCM.out, hq])
    have hnl : (splits T).length = n := by rw [← hxs, List.length_map]; exact hn
    have HNL := Lib.hid hnl
    clear hT hq hst hin hxs hn HOT hnl
    by_cases h1 : 1 < n
    · obtain rfl : cm = ⟨109, [], []⟩ := by rw [HC2.out, HTT.out.1, if_neg (by rw [HNL.out]; omega)]
      have h1' : (1 : Int) < n := by omega
      go_wp2_with fail
      go_ret
      exact ⟨rfl, HB5.out⟩
    · obtain rfl : n = 1 := by have := HTT.out.2; rw [HNL.out] at this; omega
      obtain rfl : cm = ⟨111, oK, []⟩ := by rw [HC2.out, HTT.out.1, if_pos HNL.out]
      have HFO := Lib.hid (fun W => fold_any O W (by omega))
      have HOO := Lib.hid (show (⟨((bytes O).map low).toArray⟩ : ByteArray) = ⟨oK.toArray⟩ by rw [HOB.out.1, HOL.out])
      rw [HOO.out] at HFO
      clear h1
      go_wp2_with fail
      have HKEEP := Lib.hid (show ∀ W, Below w5.heap.size w5 W → ((W.cell? ⟨w3.heap.size, 0, none⟩ = some (.int .u8 111) ∧ W.cell? ⟨w3.heap.size, 1, none⟩ = some (.string ⟨oK.toArray⟩) ∧ W.cell? ⟨w3.heap.size, 2, none⟩ = some (.string { data := #[] }) ∧ W.cell? ⟨w1.heap.size, (-(k + 1).tmod 5).toNat, none⟩ = some (.string O)) ∧ Below w5.heap.size w5 W) from fun W h => ⟨⟨(h.cell (p := ⟨w3.heap.size, 0, none⟩) hg5).trans e0, (h.cell (p := ⟨w3.heap.size, 1, none⟩) hg5).trans e1, (h.cell (p := ⟨w3.heap.size, 2, none⟩) hg5).trans e2, (h.cell (p := ⟨w1.heap.size, (-(k + 1).tmod 5).toNat, none⟩) (Nat.lt_trans hg3 hg5)).trans d5⟩, h⟩)
      have S0 := HKEEP.out w5 (Below.refl _ _)
      have t9 : 0 ≤ -(k + 1).tmod 5 := by omega
      go_region_held3 (fun W => (W.cell? ⟨w3.heap.size, 0, none⟩ = some (.int .u8 111) ∧ W.cell? ⟨w3.heap.size, 1, none⟩ = some (.string ⟨oK.toArray⟩) ∧ W.cell? ⟨w3.heap.size, 2, none⟩ = some (.string { data := #[] }) ∧ W.cell? ⟨w1.heap.size, (-(k + 1).tmod 5).toNat, none⟩ = some (.string O)) ∧ Below w5.heap.size w5 W) (first | exact S1 | exact HKEEP.out _ S0.2.drew)
        (first | (go_at_call 24; refine (HFO.out _).mono ?_; rintro e w6 ⟨rfl, hb6⟩; have S1 := HKEEP.out w6 (S0.2.drew.step hb6 (Nat.le_refl _))))
      go_wp2_with fail
      go_ret
      exact ⟨rfl, HB5.out.step S1.2 HB5.out.size⟩

set_option maxHeartbeats 1000000 in
theorem others_long (k : Int) (more : ByteArray) (m : Int) (w : World) (_hmz : more.size ≤ 140737488351232) (hmo : (500 : Int) < more.size) (hm : w.cell? ⟨2, 0, none⟩ = some (.int .i64 m)) (hbar : BarredAt w) :
    Calls Tryd.prog 7 #[.int .i64 k, .string more] w fun e w' => e = .returned (.bool true) ∧ Below w.heap.size w w' := by
  have HSH := Lib.hid (shown9_true m w hm hbar)
  clear hm hbar
  go_enter Tryd.func7, Tryd.ntmps7
  go_wp2_with fail
  refine HSH.out.mono ?_; rintro e w1 ⟨rfl, hb1⟩
  go_wp2_with fail
  go_ret
  exact ⟨rfl, hb1⟩

theorem others_walk (k : Int) (more : ByteArray) (m : Int) (w : World) (hmz : more.size ≤ 140737488351232) (hk : -9223372036854775808 ≤ k ∧ k ≤ 9223372036854775807) (hm : w.cell? ⟨2, 0, none⟩ = some (.int .i64 m)) (hbar : BarredAt w) :
    Calls Tryd.prog 7 #[.int .i64 k, .string more] w fun e w' => e = .returned (.bool true) ∧ Below w.heap.size w w' := by
  by_cases h : (500 : Int) < more.size
  · exact others_long k more m w hmz h hm hbar
  · by_cases h0 : 0 ≤ k
    · exact others_pos k more m w (by omega) hk.1 hk.2 h0 hm hbar
    · exact others_neg k more m w (by omega) hk.1 hk.2 (by omega) hm hbar

set_option maxRecDepth 100000 in
theorem others_lifted (os : Os) (started : os.Started) (H : Type) (enc : TypeId × Value → H) :
    ReturnsInHanded {} Tryd.checked os 7 .any (fun w args => (Rows.parseOthersSpec.pre enc Tryd.prog Tryd.f7 Rows.parseOthersRow.domain false w args ∧ laidMetH Tryd.prog [("taxirank/parse.barred", Rows.laid_taxirank_parse_barred)] w) ∧ sizedMet enc Tryd.prog Tryd.f7 (OpenSpec.ofChange Rows.parseOthersSpec) false w args) (Rows.parseOthersSpec.post enc Tryd.prog Tryd.f7 false true false false) := by
  refine handed_laid (C := Tryd.checked) (X := fun w _ => laidMetH Tryd.prog [("taxirank/parse.barred", Rows.laid_taxirank_parse_barred)] w) (fun _ _ _ hh h => h.of_heap hh) own started (by kernel_rfl) Tryd.func7
    (ChangeSpec.witness_shaped (enc := enc) (C := Tryd.checked) (os := os) (X := fun w _ => laidMetH Tryd.prog [("taxirank/parse.barred", Rows.laid_taxirank_parse_barred)] w) false (World.laidAll Tryd.prog os [("taxirank/parse.barred", Rows.laid_taxirank_parse_barred)]) #[.int .i64 0, .string { data := #[] }] 8 (World.laidAll_os _ _ _) (World.shaped_of_ZipB (by kernel_rfl) (by kernel_rfl)) (by kernel_rfl) (by kernel_rfl) (by kernel_rfl)
      (by rw [MakeChecks.laidMetH_plain _ _ _ (by kernel_rfl)]; exact laidMet_laidAll _ (by kernel_rfl) (by kernel_rfl))) ?_
  intro W base args ds gs before hval0 hW hsz0 hsh hL
  obtain ⟨m, hm⟩ : ∃ m, W.cell? ⟨2, 0, none⟩ = some (.int .i64 m) := Tryd.laysM143.s1_3 W hsh
  have hbar := barred_of_one hL
  have hsz : (DataW.weightsEach Tryd.prog (Tryd.f7.params.toList ++ Rows.parseOthersSpec.plain.varTypes Tryd.prog) (ds ++ gs)).all (· ≤ reachBytes) = true := hsz0
  clear hsz0
  have hval : ∀ (j : Nat) t v, Tryd.f7.params[j]? = some t → args[j]? = some v → Value.okWide Tryd.prog W .any base t v := hval0
  have hW' := hW
  obtain ⟨p, q, hA0, hV, rfl, _, _⟩ := hW
  have hA : DataW.TrodAll enc Tryd.prog W 0 (fun _ => true) true Tryd.f7.params.toList args.toList ds p := hA0
  rw [Tryd.params7] at hA hval hsz
  obtain ⟨v0, v1, d0, d1, p0, p1, rfl, rfl, rfl, h0, h1⟩ := trodAll_two hA
  obtain ⟨rfl, rfl⟩ := trodVars_none hV
  obtain ⟨k, rfl, rfl, rfl, wf_k⟩ := open_int Tryd.underlying3 (hval 0 3 v0 rfl rfl) h0
  have h_k := int_range wf_k
  obtain ⟨more, rfl, rfl, rfl, hl_more⟩ := Go.ChangeMaps.open_string Tryd.underlying9 (hval 1 9 v1 rfl rfl) h1
  have hz_more : more.size ≤ 140737488351232 := by have := sized_string hsz (j := 1) (t := 9) rfl rfl; rw [size_list] at this; exact this
  refine (others_walk k more m W hz_more h_k hm hbar).mono fun e W' ⟨he, hb⟩ => ?_
  subst he
  exact ⟨_, rfl, law_shut laidOut (by kernel_rfl) (by kernel_rfl) Tryd.underlying4 rfl hW' rfl hb⟩

theorem others_holds : Rows.ParseOthersSaid :=
  OpenClaim.holds_of_wide 7 Tryd.f7 rfl rfl rfl rfl rfl rfl rfl ⟨rfl, rfl, rfl, rfl, rfl⟩ rfl rfl rfl rfl rfl (by kernel_rfl) Tryd.func7 (by kernel_rfl)
    (of_decide_eq_true (by kernel_rfl)) (by unfold Func.isWrapper; rw [if_neg (of_decide_eq_false (by kernel_rfl))]; exact ⟨rfl, rfl⟩)
    (fun os started H enc _ => others_lifted os started H enc)

theorem others_card : Rows.ParseOthersCardSaid :=
  Claim7.holds_tied_plain_at .later [] [.data] true _ false others_holds (fun _ h => by cases h) (by kernel_rfl) (fun _ h => by cases h) parseOthers_row_tie rfl ⟨rfl, rfl⟩ (by kernel_rfl) rfl
    (fun f fn hf hfn => by
      obtain rfl : f = 7 := Option.some.inj ((show Tryd.prog.funcNamed "taxirank/taxiranklaw9.ParseOthers" = some 7 by kernel_rfl).symm.trans hf) |>.symm
      obtain rfl : fn = Tryd.f7 := (Option.some.inj (Tryd.func7.symm.trans hfn)).symm
      exact ⟨by kernel_rfl, fun j t ht => by
        rw [Tryd.params7] at ht
        have hm : t ∈ [3, 9] := by simpa using Array.mem_of_getElem? ht
        have hall : ([3, 9].all fun u => !Tryd.prog.wantsStandIn u) = true := by kernel_rfl
        exact (show Tryd.prog.wantsStandIn t = false by simpa using List.all_eq_true.1 hall t hm)⟩)
    (by kernel_rfl)
end Go.Proofs.YtgopajddloeclaaDoor
