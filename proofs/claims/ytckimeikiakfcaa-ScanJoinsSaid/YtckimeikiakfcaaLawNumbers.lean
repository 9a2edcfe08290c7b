/- Any numbers: ScanNumbers answers true, and leaves what was there as it was. -/
import Derived.Test.YtckimeikiakfcaaDigits
import Derived.Test.YtckimeikiakfcaaNumM
import Derived.ChangeAlike
import Derived.OpenShut
import Derived.SizedLaws
import Derived.HandedShaped
import Derived.Test.YtckimeikiakfcaaShelf
namespace Go.Proofs.Ytckimeikiakfcaa
open Go.RowKit Go.Lib Go.WideShapes Go.ChangeShapes Go.ChangeAt Go.Joins

theorem bytes_append (a b : ByteArray) : bytes (a ++ b) = bytes a ++ bytes b := by
  show (a ++ b).data.toList = _
  rw [ByteArray.data_append]; simp
theorem bytes_mk (t : Bs) : bytes ⟨t.toArray⟩ = t := by simp [bytes]
theorem mk_bytes (s : ByteArray) : (⟨(bytes s).toArray⟩ : ByteArray) = s := by
  apply ByteArray.ext; simp [bytes]

/-- What Scan tells of a number between signs. -/
theorem scan_num (m : Int) : ∀ (S X : ByteArray) (w : World), Num (bytes S) → (bytes S).length ≤ 100 → bytes X = 45 :: (bytes S ++ [45, 46, 120]) → w.cell? ⟨0, 0, none⟩ = some (.int .i64 m) →
    Calls Try.prog 8 #[.string X] w fun e w' => ∃ a1 a2 a3 a4 a5 b1 b2 b3 b4 b5 v, e = .returned (.tuple #[v, .int .i64 0]) ∧ w'.ownsRow w.heap.size 28 4 v ([⟨111, [45], a1, b1⟩, ⟨110, bytes S, a2, b2⟩, ⟨111, [45], a3, b3⟩, ⟨111, [46], a4, b4⟩, ⟨119, [120], a5, b5⟩] : List Tok).length (tokC [⟨111, [45], a1, b1⟩, ⟨110, bytes S, a2, b2⟩, ⟨111, [45], a3, b3⟩, ⟨111, [46], a4, b4⟩, ⟨119, [120], a5, b5⟩]) ∧ Below w.heap.size w w' := by
  intro S X w hN hl hX hm
  have hxs : X.size ≤ 104 := by rw [← bytes_len, hX, List.length_cons, List.length_append]; simp only [List.length_cons, List.length_nil]; omega
  obtain ⟨a1, a2, a3, a4, a5, b1, b2, b3, b4, b5, hT⟩ := num_tokens hN
  refine (scan_any X m w (by omega) hm).mono ?_
  rintro e w' ⟨v, rfl, hO, hB⟩
  have hR : told (bytes X) = ([⟨111, [45], a1, b1⟩, ⟨110, bytes S, a2, b2⟩, ⟨111, [45], a3, b3⟩, ⟨111, [46], a4, b4⟩, ⟨119, [120], a5, b5⟩], 0) := by
    unfold told
    rw [if_neg (by rw [bytes_len]; omega), hX, hT]
  rw [hR] at hO ⊢
  exact ⟨a1, a2, a3, a4, a5, b1, b2, b3, b4, b5, v, rfl, hO, hB⟩

theorem digits_str (n : Int) (w : World) (hn : -9223372036854775808 ≤ n ∧ n ≤ 9223372036854775807) :
    Calls Try.prog 9 #[.int .i64 n] w fun e w' => ∃ D : ByteArray, e = .returned (.string D) ∧ D.size ≤ 19 ∧ Dec (bytes D) ∧ w = w' :=
  (digits_any n w hn).mono fun _ _ ⟨t, he, hd, hw⟩ => ⟨_, he, by rw [← bytes_len, bytes_mk]; exact hd.2.1, by rw [bytes_mk]; exact hd, hw⟩

set_option maxRecDepth 100000 in
set_option maxHeartbeats 4000000 in
theorem numbers_ok (a b power m : Int) (w : World) (ha : -9223372036854775808 ≤ a ∧ a ≤ 9223372036854775807) (hb : -9223372036854775808 ≤ b ∧ b ≤ 9223372036854775807) (hp : -9223372036854775808 ≤ power ∧ power ≤ 9223372036854775807) (hm : w.cell? ⟨0, 0, none⟩ = some (.int .i64 m)) :
    Calls Try.prog 5 #[.int .i64 a, .int .i64 b, .int .i64 power] w fun e w' => e = .returned (.bool true) ∧ Below w.heap.size w w' := by
  have HM := Lib.hid hm
  have HW0 := Lib.hid (World.block_lt_of_cell? w ⟨0, 0, none⟩ hm)
  have HSH := Lib.hid (shown_true m w hm)
  have HDA := Lib.hid (fun W => digits_str a W ha)
  have HDB := Lib.hid (fun W => digits_str b W hb)
  have HDC := Lib.hid (fun W => digits_str power W hp)
  have HSC := Lib.hid (fun (S X : ByteArray) (W : World) (h1 : Num (bytes S) ∧ (bytes S).length ≤ 100) h2 h3 => scan_num m S X W h1.1 h1.2 h2 h3)
  have hcs : (power.tmod 3 == 1) = true ∧ (power.tmod 3 == 2) = false ∨ (power.tmod 3 == 1) = false ∧ (power.tmod 3 == 2) = true ∨ (power.tmod 3 == 1) = false ∧ (power.tmod 3 == 2) = false := by
    by_cases h1 : power.tmod 3 = 1
    · exact .inl ⟨by simp [h1], by simp [h1]⟩
    · by_cases h2 : power.tmod 3 = 2
      · exact .inr (.inl ⟨by simp [h2], by simp [h2]⟩)
      · exact .inr (.inr ⟨by simp [h1], by simp [h2]⟩)
  clear hm ha hb
  rcases hcs with ⟨hz1, hz2⟩ | ⟨hz1, hz2⟩ | ⟨hz1, hz2⟩
  · go_enter Try.func5, Try.ntmps5
    go_wp2_with fail
    refine HSH.out.mono ?_; rintro e w1 ⟨rfl, hb1⟩
    have HB1 := Lib.hid hb1
    clear hb1
    go_wp2_with fail
    refine (HDA.out _).mono ?_; rintro e w' ⟨DA, rfl, hsa, hda, rfl⟩
    have HA := Lib.hid hda
    clear hda
    go_wp2_with fail
    refine (HDB.out _).mono ?_; rintro e w' ⟨DB, rfl, hsb, hdb, rfl⟩
    have HBB := Lib.hid hdb
    clear hdb
    go_wp2_with fail
    refine (HDC.out _).mono ?_; rintro e w' ⟨DC, rfl, hsc, hdc, rfl⟩
    have HC := Lib.hid hdc
    clear hdc
    go_wp2_with fail
    refine (HSC.out (DA ++ { data := #[46] } ++ DB ++ { data := #[101] } ++ DC) _ _ ⟨⟨bytes DA, bytes DB, 101 :: bytes DC, by rw [bytes_append, bytes_append, bytes_append, bytes_append]; show ((bytes DA ++ [46]) ++ bytes DB ++ [101]) ++ bytes DC = _; simp, ⟨HA.out.1, HA.out.2.2⟩, HBB.out.2.2, .inr ⟨bytes DC, ⟨HC.out.1, HC.out.2.2⟩, .inl rfl⟩⟩, by simp only [bytes_len, ByteArray.size_append]; show DA.size + 1 + DB.size + 1 + DC.size ≤ 100; omega⟩ (by rw [bytes_append, bytes_append]; rfl) ((HB1.out.cell (p := ⟨0, 0, none⟩) HW0.out).trans HM.out)).mono ?_
    rintro e w9 ⟨a1, a2, a3, a4, a5, b1, b2, b3, b4, b5, v, rfl, hO, hB⟩
    obtain ⟨g, cap, rfl, hn, hcm, _, _, hc⟩ := tok_cells hO (by simp)
    have z0 : w9.cell? ⟨g, 0, none⟩ = some (.int .u8 111) := hc 0 _ rfl
    have z1 : w9.cell? ⟨g, 4, none⟩ = some (.int .u8 110) := hc 4 _ rfl
    have z2 : w9.cell? ⟨g, 5, none⟩ = some (.string (DA ++ { data := #[46] } ++ DB ++ { data := #[101] } ++ DC)) := (hc 5 _ rfl).trans (congrArg (fun x => some (Value.string x)) (mk_bytes _))
    have z3 : w9.cell? ⟨g, 9, none⟩ = some (.string { data := #[45] }) := hc 9 _ rfl
    have z4 : w9.cell? ⟨g, 12, none⟩ = some (.int .u8 111) := hc 12 _ rfl
    have z5 : w9.cell? ⟨g, 13, none⟩ = some (.string { data := #[46] }) := hc 13 _ rfl
    have z6 : w9.cell? ⟨g, 16, none⟩ = some (.int .u8 119) := hc 16 _ rfl
    have HB := Lib.hid (HB1.out.step hB HB1.out.size)
    clear hc hO hB
    go_wp2_with fail
    go_ret
    exact ⟨rfl, HB.out⟩
  · go_enter Try.func5, Try.ntmps5
    go_wp2_with fail
    refine HSH.out.mono ?_; rintro e w1 ⟨rfl, hb1⟩
    have HB1 := Lib.hid hb1
    clear hb1
    go_wp2_with fail
    refine (HDA.out _).mono ?_; rintro e w' ⟨DA, rfl, hsa, hda, rfl⟩
    have HA := Lib.hid hda
    clear hda
    go_wp2_with fail
    refine (HDB.out _).mono ?_; rintro e w' ⟨DB, rfl, hsb, hdb, rfl⟩
    have HBB := Lib.hid hdb
    clear hdb
    go_wp2_with fail
    refine (HDC.out _).mono ?_; rintro e w' ⟨DC, rfl, hsc, hdc, rfl⟩
    have HC := Lib.hid hdc
    clear hdc
    go_wp2_with fail
    refine (HSC.out (DA ++ { data := #[46] } ++ DB ++ { data := #[69, 45] } ++ DC) _ _ ⟨⟨bytes DA, bytes DB, 69 :: 45 :: bytes DC, by rw [bytes_append, bytes_append, bytes_append, bytes_append]; show ((bytes DA ++ [46]) ++ bytes DB ++ [69, 45]) ++ bytes DC = _; simp, ⟨HA.out.1, HA.out.2.2⟩, HBB.out.2.2, .inr ⟨bytes DC, ⟨HC.out.1, HC.out.2.2⟩, .inr rfl⟩⟩, by simp only [bytes_len, ByteArray.size_append]; show DA.size + 1 + DB.size + 2 + DC.size ≤ 100; omega⟩ (by rw [bytes_append, bytes_append]; rfl) ((HB1.out.cell (p := ⟨0, 0, none⟩) HW0.out).trans HM.out)).mono ?_
    rintro e w9 ⟨a1, a2, a3, a4, a5, b1, b2, b3, b4, b5, v, rfl, hO, hB⟩
    obtain ⟨g, cap, rfl, hn, hcm, _, _, hc⟩ := tok_cells hO (by simp)
    have z0 : w9.cell? ⟨g, 0, none⟩ = some (.int .u8 111) := hc 0 _ rfl
    have z1 : w9.cell? ⟨g, 4, none⟩ = some (.int .u8 110) := hc 4 _ rfl
    have z2 : w9.cell? ⟨g, 5, none⟩ = some (.string (DA ++ { data := #[46] } ++ DB ++ { data := #[69, 45] } ++ DC)) := (hc 5 _ rfl).trans (congrArg (fun x => some (Value.string x)) (mk_bytes _))
    have z3 : w9.cell? ⟨g, 9, none⟩ = some (.string { data := #[45] }) := hc 9 _ rfl
    have z4 : w9.cell? ⟨g, 12, none⟩ = some (.int .u8 111) := hc 12 _ rfl
    have z5 : w9.cell? ⟨g, 13, none⟩ = some (.string { data := #[46] }) := hc 13 _ rfl
    have z6 : w9.cell? ⟨g, 16, none⟩ = some (.int .u8 119) := hc 16 _ rfl
    have HB := Lib.hid (HB1.out.step hB HB1.out.size)
    clear hc hO hB
    go_wp2_with fail
    go_ret
    exact ⟨rfl, HB.out⟩
  · go_enter Try.func5, Try.ntmps5
    go_wp2_with fail
    refine HSH.out.mono ?_; rintro e w1 ⟨rfl, hb1⟩
    have HB1 := Lib.hid hb1
    clear hb1
    go_wp2_with fail
    refine (HDA.out _).mono ?_; rintro e w' ⟨DA, rfl, hsa, hda, rfl⟩
    have HA := Lib.hid hda
    clear hda
    go_wp2_with fail
    refine (HDB.out _).mono ?_; rintro e w' ⟨DB, rfl, hsb, hdb, rfl⟩
    have HBB := Lib.hid hdb
    clear hdb
    go_wp2_with fail
    refine (HSC.out (DA ++ { data := #[46] } ++ DB) _ _ ⟨⟨bytes DA, bytes DB, [], by rw [bytes_append, bytes_append]; show (bytes DA ++ [46]) ++ bytes DB = _; simp, ⟨HA.out.1, HA.out.2.2⟩, HBB.out.2.2, .inl rfl⟩, by simp only [bytes_len, ByteArray.size_append]; show DA.size + 1 + DB.size ≤ 100; omega⟩ (by rw [bytes_append, bytes_append]; rfl) ((HB1.out.cell (p := ⟨0, 0, none⟩) HW0.out).trans HM.out)).mono ?_
    rintro e w9 ⟨a1, a2, a3, a4, a5, b1, b2, b3, b4, b5, v, rfl, hO, hB⟩
    obtain ⟨g, cap, rfl, hn, hcm, _, _, hc⟩ := tok_cells hO (by simp)
    have z0 : w9.cell? ⟨g, 0, none⟩ = some (.int .u8 111) := hc 0 _ rfl
    have z1 : w9.cell? ⟨g, 4, none⟩ = some (.int .u8 110) := hc 4 _ rfl
    have z2 : w9.cell? ⟨g, 5, none⟩ = some (.string (DA ++ { data := #[46] } ++ DB)) := (hc 5 _ rfl).trans (congrArg (fun x => some (Value.string x)) (mk_bytes _))
    have z3 : w9.cell? ⟨g, 9, none⟩ = some (.string { data := #[45] }) := hc 9 _ rfl
    have z4 : w9.cell? ⟨g, 12, none⟩ = some (.int .u8 111) := hc 12 _ rfl
    have z5 : w9.cell? ⟨g, 13, none⟩ = some (.string { data := #[46] }) := hc 13 _ rfl
    have z6 : w9.cell? ⟨g, 16, none⟩ = some (.int .u8 119) := hc 16 _ rfl
    have HB := Lib.hid (HB1.out.step hB HB1.out.size)
    clear hc hO hB
    go_wp2_with fail
    go_ret
    exact ⟨rfl, HB.out⟩

set_option maxRecDepth 100000 in
theorem numbers_lifted (os : Os) (started : os.Started) (H : Type) (enc : TypeId × Value → H) :
    ReturnsInHanded {} Try.checked os 5 .any (Rows.scanNumbersSpec.pre6 enc Try.prog Try.f5 Rows.scanNumbersRow.domain false) (Rows.scanNumbersSpec.post enc Try.prog Try.f5 false true false false) := by
  refine returnsInHanded_of_change_shaped (C := Try.checked) own started (by kernel_rfl) Try.func5
    (ChangeSpec.witness6 (enc := enc) (C := Try.checked) false ⟨#[], #[.int .i64 0, .int .i64 0, .int .i64 0], []⟩ 8 (by kernel_rfl) (by kernel_rfl) (by kernel_rfl) (by kernel_rfl)) ?_
  intro W base args ds gs before hval0 hW _ hsz0 hsh _
  obtain ⟨m, hm⟩ : ∃ m, W.cell? ⟨0, 0, none⟩ = some (.int .i64 m) := Try.laysM143.s1_3 W hsh
  have hsz : (DataW.weightsEach Try.prog (Try.f5.params.toList ++ Rows.scanNumbersSpec.plain.varTypes Try.prog) (ds ++ gs)).all (· ≤ reachBytes) = true := hsz0
  clear hsz0
  have hval : ∀ (j : Nat) t v, Try.f5.params[j]? = some t → args[j]? = some v → Value.okWide Try.prog W .any base t v := hval0
  have hW' := hW
  obtain ⟨p, q, hA0, hV, rfl, _, _⟩ := hW
  have hA : DataW.TrodAll enc Try.prog W 0 (fun _ => true) true Try.f5.params.toList args.toList ds p := hA0
  rw [Try.params5] at hA hval hsz
  obtain ⟨v0, v1, v2, d0, d1, d2, p0, p1, p2, rfl, rfl, rfl, h0, h1, h2⟩ := trodAll_three hA
  obtain ⟨rfl, rfl⟩ := trodVars_none hV
  obtain ⟨a, rfl, rfl, rfl, wf_a⟩ := open_int Try.underlying3 (hval 0 3 v0 rfl rfl) h0
  have h_a := int_range wf_a
  obtain ⟨b, rfl, rfl, rfl, wf_b⟩ := open_int Try.underlying3 (hval 1 3 v1 rfl rfl) h1
  have h_b := int_range wf_b
  obtain ⟨power, rfl, rfl, rfl, wf_power⟩ := open_int Try.underlying3 (hval 2 3 v2 rfl rfl) h2
  have h_power := int_range wf_power
  refine (numbers_ok a b power m W h_a h_b h_power hm).mono fun e W' ⟨he, hb⟩ => ?_
  subst he
  exact ⟨_, rfl, law_shut laidOut (by kernel_rfl) (by kernel_rfl) Try.underlying4 rfl hW' rfl hb⟩

theorem numbers_holds : Rows.ScanNumbersSaid :=
  OpenClaim.holds_of_wide 5 Try.f5 rfl rfl rfl rfl rfl rfl rfl ⟨rfl, rfl, rfl, rfl, rfl⟩ rfl rfl rfl rfl rfl (by kernel_rfl) Try.func5 (by kernel_rfl)
    (of_decide_eq_true (by kernel_rfl)) (by unfold Func.isWrapper; rw [if_neg (of_decide_eq_false (by kernel_rfl))]; exact ⟨rfl, rfl⟩)
    (fun os started H enc _ => numbers_lifted os started H enc)
end Go.Proofs.Ytckimeikiakfcaa
