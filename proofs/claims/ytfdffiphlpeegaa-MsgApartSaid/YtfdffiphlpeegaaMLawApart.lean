/- Any direction, any two messages: MsgApart answers true, and leaves what was there as it was. -/
import Derived.Test.YtfdffiphlpeegaaMApart
import Derived.ChangeAlike
import Derived.OpenShut
import Derived.SizedLaws
import Derived.HandedShaped
namespace Go.Proofs.Ytfdffiphlpeegaa
open Go.RowKit Go.Lib Go.WideShapes Go.ChangeShapes Go.ChangeAt Go.Joins

set_option maxRecDepth 100000 in
theorem apart_lifted (os : Os) (started : os.Started) (H : Type) (enc : TypeId × Value → H) :
    ReturnsInHanded {} Try.checked os 4 .any (Rows.msgApartSpec.pre6 enc Try.prog Try.f4 Rows.msgApartRow.domain false) (Rows.msgApartSpec.post enc Try.prog Try.f4 false true false false) := by
  refine returnsInHanded_of_change_sized (C := Try.checked) own started (by kernel_rfl) Try.func4
    (ChangeSpec.witness6 (enc := enc) (C := Try.checked) false ⟨#[], #[.bool false, .agg #[.int .u8 0, .slice none 0 0, .slice none 0 0], .agg #[.int .u8 0, .slice none 0 0, .slice none 0 0]], []⟩ 8 (by kernel_rfl) (by kernel_rfl) (by kernel_rfl) (by kernel_rfl)) ?_
  intro W base args ds gs before hval0 hW _ hsz0 _
  have hsz : (DataW.weightsEach Try.prog (Try.f4.params.toList ++ Rows.msgApartSpec.plain.varTypes Try.prog) (ds ++ gs)).all (· ≤ reachBytes) = true := hsz0
  clear hsz0
  have hval : ∀ (j : Nat) t v, Try.f4.params[j]? = some t → args[j]? = some v → Value.okWide Try.prog W .any base t v := hval0
  have hW' := hW
  obtain ⟨p, q, hA0, hV, rfl, _, _⟩ := hW
  have hA : DataW.TrodAll enc Try.prog W 0 (fun _ => true) true Try.f4.params.toList args.toList ds p := hA0
  rw [Try.params4] at hA hval hsz
  obtain ⟨v0, v1, v2, d0, d1, d2, p0, p1, p2, rfl, rfl, rfl, h0, h1, h2⟩ := trodAll_three hA
  obtain ⟨rfl, rfl⟩ := trodVars_none hV
  obtain ⟨back, rfl, rfl, rfl⟩ := open_bool Try.underlying4 (hval 0 4 v0 rfl rfl) h0
  obtain ⟨c1, tv1, nv1, T1, N1, rfl, hT1, hN1, hw1, hr1⟩ := open_msg (hval 1 25 v1 rfl rfl) h1
  have hz1 : ∀ t ∈ T1, t.length ≤ 140737488351232 := fun t ht => of_decide_eq_true (List.all_eq_true.1 hsz _ (DataW.weights_mem_each (j := 1) (t := 25) rfl rfl _ (hw1 t ht)))
  obtain ⟨c2, tv2, nv2, T2, N2, rfl, hT2, hN2, hw2, hr2⟩ := open_msg (hval 2 25 v2 rfl rfl) h2
  have hz2 : ∀ t ∈ T2, t.length ≤ 140737488351232 := fun t ht => of_decide_eq_true (List.all_eq_true.1 hsz _ (DataW.weights_mem_each (j := 2) (t := 25) rfl rfl _ (hw2 t ht)))
  refine (apart_walk W back c1 c2 T1 T2 N1 N2 tv1 nv1 tv2 nv2 hT1 hN1 hT2 hN2 hz1 hz2).mono fun e W' ⟨he, hb⟩ => ?_
  subst he
  exact ⟨_, rfl, law_shut laidOut (by kernel_rfl) (by kernel_rfl) Try.underlying4 rfl hW' rfl hb⟩

theorem apart_holds : Rows.MsgApartSaid :=
  OpenClaim.holds_of_wide 4 Try.f4 rfl rfl rfl rfl rfl rfl rfl ⟨rfl, rfl, rfl, rfl, rfl⟩ rfl rfl rfl rfl rfl (by kernel_rfl) Try.func4 (by kernel_rfl)
    (of_decide_eq_true (by kernel_rfl)) (by unfold Func.isWrapper; rw [if_neg (of_decide_eq_false (by kernel_rfl))]; exact ⟨rfl, rfl⟩)
    (fun os started H enc _ => apart_lifted os started H enc)
end Go.Proofs.Ytfdffiphlpeegaa
