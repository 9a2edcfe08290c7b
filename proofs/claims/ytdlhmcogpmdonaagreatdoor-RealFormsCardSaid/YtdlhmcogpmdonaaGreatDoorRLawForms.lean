/- The form of a text, which of two is greater, and whether one is between two, or what is wrong, are as the chapter says, digit by digit: RealForms answers true, whatever three texts it is called with, and leaves what was there as it was. (Over the listed tables of the library, tied to the program's text.) -/
import Derived.Test.YtdlhmcogpmdonaaGreatDoorRCard
import Derived.Test.YtdlhmcogpmdonaaGreatDoorRShown
namespace Go.Proofs.YtdlhmcogpmdonaaGreatDoor
open Go.RowKit Go.Lib Go.WideShapes Go.ChangeShapes Go.ChangeAt Go.Joins

set_option maxRecDepth 100000 in
set_option maxHeartbeats 8000000 in
theorem forms_walk (w : World) (a b c : ByteArray) (hT : Tabs w) (hw : 1 ≤ w.heap.size) (za : a.size ≤ 140737488351232) (zb : b.size ≤ 140737488351232) (zc : c.size ≤ 140737488351232) :
    Calls Tryz.prog 3 #[.string a, .string b, .string c] w fun e w' => e = .returned (.bool true) ∧ Below w.heap.size w w' := by
  have HSH := Lib.hid (fun W hT hw => shown_any W hT hw)
  have HT := Lib.hid hT
  clear hT
  by_cases hz : a.size + b.size + c.size ≤ 3000
  · have hz' : (a.size : Int) + b.size + c.size ≤ 3000 := by omega
    have H2 := Lib.hid (fun W hT hw => canon_at a W hT hw (by omega))
    have H3 := Lib.hid (fun W => rcanon_at a W (by omega))
    have H4 := Lib.hid (fun W hT => cmp_at a b W hT (by omega) (by omega))
    have H5 := Lib.hid (fun W => rcmp_at a b W (by omega) (by omega))
    have H6 := Lib.hid (fun W hT => between_at a b c W hT (by omega) (by omega) (by omega))
    have H7 := Lib.hid (fun W => rbetween_at a b c W (by omega) (by omega) (by omega))
    generalize (⟨(cS (bytes a)).toArray⟩ : ByteArray) = x at H2 H3
    generalize cE (bytes a) = e1 at H2 H3
    generalize zC (bytes a) (bytes b) = e2 at H4 H5
    generalize zE (bytes a) (bytes b) = e3 at H4 H5
    generalize bB (bytes a) (bytes b) (bytes c) = e4 at H6 H7
    generalize bE (bytes a) (bytes b) (bytes c) = e5 at H6 H7
    clear hz
    go_enter Tryz.func3, Tryz.ntmps3
    go_wp2_with fail
    refine (HSH.out _ HT.out hw).mono ?_; rintro e w1 ⟨rfl, hb⟩
    have H1 := Lib.hid hb
    clear hb
    go_wp2_with fail
    refine (H2.out _ (HT.out.step H1.out) (Nat.le_trans hw H1.out.size)).mono ?_; rintro e w12 ⟨rfl, hb⟩
    have H12 := Lib.hid (H1.out.on hb)
    clear hb
    go_wp2_with fail
    refine (H3.out _).mono ?_; rintro e w13 ⟨rfl, hb⟩
    have H13 := Lib.hid (H12.out.on hb)
    clear hb
    go_wp2_with fail
    refine (H4.out _ (HT.out.step H13.out)).mono ?_; rintro e w14 ⟨rfl, hb⟩
    have H14 := Lib.hid (H13.out.on hb)
    clear hb
    go_wp2_with fail
    refine (H5.out _).mono ?_; rintro e w15 ⟨rfl, hb⟩
    have H15 := Lib.hid (H14.out.on hb)
    clear hb
    go_wp2_with fail
    refine (H6.out _ (HT.out.step H15.out)).mono ?_; rintro e w16 ⟨rfl, hb⟩
    have H16 := Lib.hid (H15.out.on hb)
    clear hb
    go_wp2_with fail
    refine (H7.out _).mono ?_; rintro e w17 ⟨rfl, hb⟩
    have H17 := Lib.hid (H16.out.on hb)
    clear hb
    go_wp2_with fail
    go_ret
    exact ⟨rfl, H17.out⟩
  · have hz' : (3000 : Int) < (a.size : Int) + b.size + c.size := by omega
    clear hz
    go_enter Tryz.func3, Tryz.ntmps3
    go_wp2_with fail
    refine (HSH.out _ HT.out hw).mono ?_; rintro e w1 ⟨rfl, hb⟩
    have H1 := Lib.hid hb
    clear hb
    go_wp2_with fail
    go_ret
    exact ⟨rfl, H1.out⟩

set_option maxRecDepth 100000 in
theorem forms_lifted (os : Os) (started : os.Started) (H : Type) (enc : TypeId × Value → H) :
    ReturnsInHanded {} Tryz.checked os 3 .any (fun w args => (Rows.realFormsSpec.pre enc Tryz.prog Tryz.f3 Rows.realFormsRow.domain false w args ∧ laidMetH Tryz.prog laidL w) ∧ sizedMet enc Tryz.prog Tryz.f3 (OpenSpec.ofChange Rows.realFormsSpec) false w args) (Rows.realFormsSpec.post enc Tryz.prog Tryz.f3 false true false false) := by
  refine handed_laid (C := Tryz.checked) (X := fun w _ => laidMetH Tryz.prog laidL w) (fun _ _ _ hh h => h.of_heap hh) own started (by kernel_rfl) Tryz.func3
    (ChangeSpec.witness_shaped (enc := enc) (C := Tryz.checked) (os := os) (X := fun w _ => laidMetH Tryz.prog laidL w) false (World.laidAll Tryz.prog os laidL) #[.string { data := #[] }, .string { data := #[] }, .string { data := #[] }] 8 (World.laidAll_os _ _ _) (World.shaped_of_ZipB (by kernel_rfl) (by kernel_rfl)) (by kernel_rfl) (by kernel_rfl) (by kernel_rfl)
      (by rw [MakeChecks.laidMetH_plain _ _ _ (by kernel_rfl)]; exact laidMet_laidAll _ (by kernel_rfl) (by kernel_rfl))) ?_
  intro W base args ds gs before hval0 hW hsz0 hsh hL
  obtain ⟨m, hm⟩ : ∃ m, W.cell? ⟨4, 0, none⟩ = some (.int .i64 m) := Tryz.laysM145.s1_3 W hsh
  have hT := tabs_of_laid ⟨m, hm⟩ hL
  have hw : 1 ≤ W.heap.size := Nat.lt_of_le_of_lt (Nat.zero_le _) (World.block_lt_of_cell? W ⟨4, 0, none⟩ hm)
  have hsz : (DataW.weightsEach Tryz.prog (Tryz.f3.params.toList ++ Rows.realFormsSpec.plain.varTypes Tryz.prog) (ds ++ gs)).all (· ≤ reachBytes) = true := hsz0
  clear hsz0
  have hval : ∀ (j : Nat) t v, Tryz.f3.params[j]? = some t → args[j]? = some v → Value.okWide Tryz.prog W .any base t v := hval0
  have hW' := hW
  obtain ⟨p, q, hA0, hV, rfl, _, _⟩ := hW
  have hA : DataW.TrodAll enc Tryz.prog W 0 (fun _ => true) true Tryz.f3.params.toList args.toList ds p := hA0
  rw [Tryz.params3] at hA hval hsz
  obtain ⟨v0, v1, v2, d0, d1, d2, p0, p1, p2, rfl, rfl, rfl, h0, h1, h2⟩ := trodAll_three hA
  obtain ⟨rfl, rfl⟩ := trodVars_none hV
  obtain ⟨a, rfl, rfl, rfl, hl_a⟩ := Go.ChangeMaps.open_string Tryz.underlying9 (hval 0 9 v0 rfl rfl) h0
  have hz_a : a.size ≤ 140737488351232 := by have := sized_string hsz (j := 0) (t := 9) rfl rfl; rw [size_list] at this; exact this
  obtain ⟨b, rfl, rfl, rfl, hl_b⟩ := Go.ChangeMaps.open_string Tryz.underlying9 (hval 1 9 v1 rfl rfl) h1
  have hz_b : b.size ≤ 140737488351232 := by have := sized_string hsz (j := 1) (t := 9) rfl rfl; rw [size_list] at this; exact this
  obtain ⟨c, rfl, rfl, rfl, hl_c⟩ := Go.ChangeMaps.open_string Tryz.underlying9 (hval 2 9 v2 rfl rfl) h2
  have hz_c : c.size ≤ 140737488351232 := by have := sized_string hsz (j := 2) (t := 9) rfl rfl; rw [size_list] at this; exact this
  refine (forms_walk W a b c hT hw hz_a hz_b hz_c).mono fun e W' ⟨he, hb⟩ => ?_
  subst he
  exact ⟨_, rfl, law_shut laidOut (by kernel_rfl) (by kernel_rfl) Tryz.underlying4 rfl hW' rfl hb⟩

theorem forms_holds : Rows.RealFormsSaid :=
  OpenClaim.holds_of_wide 3 Tryz.f3 rfl rfl rfl rfl rfl rfl rfl ⟨rfl, rfl, rfl, rfl, rfl⟩ rfl rfl rfl rfl rfl (by kernel_rfl) Tryz.func3 (by kernel_rfl)
    (of_decide_eq_true (by kernel_rfl)) (by unfold Func.isWrapper; rw [if_neg (of_decide_eq_false (by kernel_rfl))]; exact ⟨rfl, rfl⟩)
    (fun os started H enc _ => forms_lifted os started H enc)

theorem forms_card : Rows.RealFormsCardSaid :=
  Claim7.holds_tied_plain_at .later [] [.data, .data, .widerDeep, .widerDeep, .data, .data, .data, .data, .data, .data, .sentinel, .sentinel, .pinned, .pinned, .pinned] true _ true forms_holds (fun _ h => by cases h) (by kernel_rfl) (fun _ h => by cases h) realForms_row_tie rfl ⟨rfl, rfl⟩ (by kernel_rfl) rfl
    (fun f fn hf hfn => by
      obtain rfl : f = 3 := Option.some.inj ((show Tryz.prog.funcNamed "taxirank/taxiranklaw5.RealForms" = some 3 by kernel_rfl).symm.trans hf) |>.symm
      obtain rfl : fn = Tryz.f3 := (Option.some.inj (Tryz.func3.symm.trans hfn)).symm
      exact ⟨by kernel_rfl, fun j t ht => by
        rw [Tryz.params3] at ht
        have hm : t ∈ [9, 9, 9] := by simpa using Array.mem_of_getElem? ht
        have hall : ([9, 9, 9].all fun u => !Tryz.prog.wantsStandIn u) = true := by kernel_rfl
        exact (show Tryz.prog.wantsStandIn t = false by simpa using List.all_eq_true.1 hall t hm)⟩)
    (by kernel_rfl)
end Go.Proofs.YtdlhmcogpmdonaaGreatDoor
