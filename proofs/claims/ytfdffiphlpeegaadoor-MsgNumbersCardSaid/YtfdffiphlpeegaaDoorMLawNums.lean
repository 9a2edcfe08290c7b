/- Any three numbers: MsgNumbers answers true, and leaves what was there as it was. -/
import Derived.Test.YtfdffiphlpeegaaDoorMNumsT
import Derived.Test.YtfdffiphlpeegaaDoorMNumsF
namespace Go.Proofs.YtfdffiphlpeegaaDoor
open Go.RowKit Go.Lib Go.WideShapes Go.ChangeShapes Go.ChangeAt Go.Joins

theorem numbers_ok (w : World) (a b c : Int) :
    Calls Tryd.prog 6 #[.int .i64 a, .int .i64 b, .int .i64 c] w fun e w' => e = .returned (.bool true) ∧ Below w.heap.size w w' := by
  cases h4 : four a b with
  | true =>
    by_cases q1 : 0 ≤ c
    · by_cases q2 : c ≤ 255
      · exact numbers_true_tt w a b c h4 q1 q2
      · by_cases q3 : c ≤ 32767
        · exact numbers_true_big w a b c h4 (by omega) q3
        · exact numbers_true_top w a b c h4 (by omega)
    · by_cases q2 : -32768 ≤ c
      · exact numbers_true_neg w a b c h4 (by omega) q2
      · exact numbers_true_low w a b c h4 (by omega)
  | false =>
    by_cases q1 : 0 ≤ c
    · by_cases q2 : c ≤ 255
      · exact numbers_false_tt w a b c h4 q1 q2
      · by_cases q3 : c ≤ 32767
        · exact numbers_false_big w a b c h4 (by omega) q3
        · exact numbers_false_top w a b c h4 (by omega)
    · by_cases q2 : -32768 ≤ c
      · exact numbers_false_neg w a b c h4 (by omega) q2
      · exact numbers_false_low w a b c h4 (by omega)

set_option maxRecDepth 100000 in
theorem numbers_lifted (os : Os) (started : os.Started) (H : Type) (enc : TypeId × Value → H) :
    ReturnsInHanded {} Tryd.checked os 6 .any (fun w args => (Rows.msgNumbersSpec.pre enc Tryd.prog Tryd.f6 Rows.msgNumbersRow.domain false w args ∧ laidMetH Tryd.prog [("unicode/utf8.acceptRanges", Rows.laid_unicode_utf8_acceptRanges), ("unicode/utf8.first", Rows.laid_unicode_utf8_first)] w) ∧ sizedMet enc Tryd.prog Tryd.f6 (OpenSpec.ofChange Rows.msgNumbersSpec) false w args) (Rows.msgNumbersSpec.post enc Tryd.prog Tryd.f6 false true false false) := by
  refine handed_laid (C := Tryd.checked) (X := fun w _ => laidMetH Tryd.prog [("unicode/utf8.acceptRanges", Rows.laid_unicode_utf8_acceptRanges), ("unicode/utf8.first", Rows.laid_unicode_utf8_first)] w) (fun _ _ _ hh h => h.of_heap hh) own started (by kernel_rfl) Tryd.func6
    (ChangeSpec.witness_shaped (enc := enc) (C := Tryd.checked) (os := os) (X := fun w _ => laidMetH Tryd.prog [("unicode/utf8.acceptRanges", Rows.laid_unicode_utf8_acceptRanges), ("unicode/utf8.first", Rows.laid_unicode_utf8_first)] w) false (World.laidAll Tryd.prog os [("unicode/utf8.acceptRanges", Rows.laid_unicode_utf8_acceptRanges), ("unicode/utf8.first", Rows.laid_unicode_utf8_first)]) #[.int .i64 0, .int .i64 0, .int .i64 0] 8 (World.laidAll_os _ _ _) (World.shaped_of_ZipB (by kernel_rfl) (by kernel_rfl)) (by kernel_rfl) (by kernel_rfl) (by kernel_rfl)
      (by rw [MakeChecks.laidMetH_plain _ _ _ (by kernel_rfl)]; exact laidMet_laidAll _ (by kernel_rfl) (by kernel_rfl))) ?_
  intro W base args ds gs before hval0 hW hsz0 _ _
  have hsz : (DataW.weightsEach Tryd.prog (Tryd.f6.params.toList ++ Rows.msgNumbersSpec.plain.varTypes Tryd.prog) (ds ++ gs)).all (· ≤ reachBytes) = true := hsz0
  clear hsz0
  have hval : ∀ (j : Nat) t v, Tryd.f6.params[j]? = some t → args[j]? = some v → Value.okWide Tryd.prog W .any base t v := hval0
  have hW' := hW
  obtain ⟨p, q, hA0, hV, rfl, _, _⟩ := hW
  have hA : DataW.TrodAll enc Tryd.prog W 0 (fun _ => true) true Tryd.f6.params.toList args.toList ds p := hA0
  rw [Tryd.params6] at hA hval hsz
  obtain ⟨v0, v1, v2, d0, d1, d2, p0, p1, p2, rfl, rfl, rfl, h0, h1, h2⟩ := trodAll_three hA
  obtain ⟨rfl, rfl⟩ := trodVars_none hV
  obtain ⟨a, rfl, rfl, rfl, wf_a⟩ := open_int Tryd.underlying3 (hval 0 3 v0 rfl rfl) h0
  have h_a := int_range wf_a
  obtain ⟨b, rfl, rfl, rfl, wf_b⟩ := open_int Tryd.underlying3 (hval 1 3 v1 rfl rfl) h1
  have h_b := int_range wf_b
  obtain ⟨c, rfl, rfl, rfl, wf_c⟩ := open_int Tryd.underlying3 (hval 2 3 v2 rfl rfl) h2
  have h_c := int_range wf_c
  refine (numbers_ok W a b c).mono fun e W' ⟨he, hb⟩ => ?_
  subst he
  exact ⟨_, rfl, law_shut laidOut (by kernel_rfl) (by kernel_rfl) Tryd.underlying4 rfl hW' rfl hb⟩

theorem numbers_holds : Rows.MsgNumbersSaid :=
  OpenClaim.holds_of_wide 6 Tryd.f6 rfl rfl rfl rfl rfl rfl rfl ⟨rfl, rfl, rfl, rfl, rfl⟩ rfl rfl rfl rfl rfl (by kernel_rfl) Tryd.func6 (by kernel_rfl)
    (of_decide_eq_true (by kernel_rfl)) (by unfold Func.isWrapper; rw [if_neg (of_decide_eq_false (by kernel_rfl))]; exact ⟨rfl, rfl⟩)
    (fun os started H enc _ => numbers_lifted os started H enc)

theorem numbers_card : Rows.MsgNumbersCardSaid :=
  Claim7.holds_tied_plain_at .later [] [.data, .pinned] true _ false numbers_holds (fun _ h => by cases h) (by kernel_rfl) (fun _ h => by cases h) msgNumbers_row_tie rfl ⟨rfl, rfl⟩ (by kernel_rfl) rfl
    (fun f fn hf hfn => by
      obtain rfl : f = 6 := Option.some.inj ((show Tryd.prog.funcNamed "taxirank/taxiranklaw2.MsgNumbers" = some 6 by kernel_rfl).symm.trans hf) |>.symm
      obtain rfl : fn = Tryd.f6 := (Option.some.inj (Tryd.func6.symm.trans hfn)).symm
      exact ⟨by kernel_rfl, fun j t ht => by
        rw [Tryd.params6] at ht
        have hm : t ∈ [3, 3, 3] := by simpa using Array.mem_of_getElem? ht
        have hall : ([3, 3, 3].all fun u => !Tryd.prog.wantsStandIn u) = true := by kernel_rfl
        exact (show Tryd.prog.wantsStandIn t = false by simpa using List.all_eq_true.1 hall t hm)⟩)
    (by kernel_rfl)
end Go.Proofs.YtfdffiphlpeegaaDoor
