/- NaN is behind all, equal to itself; infinities are around all numbers; minus turns the order of numbers; -0 is 0: RealEdges answers true, whatever two numbers it is called with. (Over the listed tables of the library, tied to the program's text.) -/
import Derived.Test.YtdlhmcogpmdonaaGreatDoorRCard
import Derived.Test.YtdlhmcogpmdonaaGreatDoorRShown
import Derived.Test.YtdlhmcogpmdonaaGreatDoorROrdM
import Derived.Test.YtdlhmcogpmdonaaGreatDoorRTextsB
namespace Go.Proofs.YtdlhmcogpmdonaaGreatDoor
open Go.RowKit Go.Lib Go.WideShapes Go.ChangeShapes Go.ChangeAt Go.Joins

set_option maxRecDepth 100000 in
set_option maxHeartbeats 16000000 in
theorem edges_walk (w : World) (m n : Int) (hT : Tabs w) (hw : 1 ≤ w.heap.size) (hm : -9223372036854775808 ≤ m ∧ m ≤ 9223372036854775807) (hn : -9223372036854775808 ≤ n ∧ n ≤ 9223372036854775807) :
    Calls Tryz.prog 5 #[.int .i64 m, .int .i64 n] w fun e w' => e = .returned (.bool true) ∧ Below w.heap.size w w' := by
  have HSH := Lib.hid (fun W hT hw => shown_any W hT hw)
  have HT := Lib.hid hT
  clear hT
  have K1 := Lib.hid (fun W => txt_at m W hm)
  have K2 := Lib.hid (fun W => txt_at n W hn)
  have hX := magI_lt m; have hY := magI_lt n
  clear hm hn
  generalize magI m = X at K1 hX
  generalize magI n = Y at K2 hY
  generalize negI m = sx at K1
  generalize negI n = sy at K2
  obtain ⟨A, hA⟩ : ∃ A : ByteArray, A = ⟨(txt sx X).toArray⟩ := ⟨_, rfl⟩
  obtain ⟨B, hB⟩ : ∃ B : ByteArray, B = ⟨(txt sy Y).toArray⟩ := ⟨_, rfl⟩
  obtain ⟨A2, hA2⟩ : ∃ A : ByteArray, A = ⟨(txt (!sx) X).toArray⟩ := ⟨_, rfl⟩
  obtain ⟨B2, hB2⟩ : ∃ B : ByteArray, B = ⟨(txt (!sy) Y).toArray⟩ := ⟨_, rfl⟩
  have bA : bytes A = txt sx X := by rw [hA, bytes_mk]
  have bB : bytes B = txt sy Y := by rw [hB, bytes_mk]
  have bA2 : bytes A2 = txt (!sx) X := by rw [hA2, bytes_mk]
  have bB2 : bytes B2 = txt (!sy) Y := by rw [hB2, bytes_mk]
  have zA : A.size ≤ 17 := by rw [← bytes_len, bA]; exact txt_len _ _
  have zB : B.size ≤ 17 := by rw [← bytes_len, bB]; exact txt_len _ _
  have zA2 : A2.size ≤ 17 := by rw [← bytes_len, bA2]; exact txt_len _ _
  have zB2 : B2.size ≤ 17 := by rw [← bytes_len, bB2]; exact txt_len _ _
  have K4 := Lib.hid (fun W => min_at A sx X W bA)
  have K5 := Lib.hid (fun W => min_at B sy Y W bB)
  rw [← hA] at K1
  rw [← hB] at K2
  rw [← hA2] at K4
  rw [← hB2] at K5
  have nA := txt_num sx hX; have nB := txt_num sy hY
  have nA2 := txt_num (!sx) hX; have nB2 := txt_num (!sy) hY
  rw [← bA] at nA
  rw [← bB] at nB
  rw [← bA2] at nA2
  rw [← bB2] at nB2
  have l1 : numB (bytes ⟨#[110, 97, 110]⟩) = some .nan := rfl
  have l2 : numB (bytes ⟨#[105, 110, 102]⟩) = some (.inf false) := rfl
  have l3 : numB (bytes ⟨#[45, 73, 110, 102, 105, 110, 105, 116, 121]⟩) = some (.inf true) := rfl
  have l4 : numB (bytes ⟨#[78, 97, 78]⟩) = some .nan := rfl
  have l5 : numB (bytes ⟨#[73, 110, 102, 105, 110, 105, 116, 121]⟩) = some (.inf false) := rfl
  have l6 : numB (bytes ⟨#[45, 110, 97, 110]⟩) = none := rfl
  have l7 : numB (bytes ⟨#[45, 48, 46, 48]⟩) = some (.fin true 0) := rfl
  have l8 : numB (bytes ⟨#[48]⟩) = some (.fin false 0) := rfl
  have k3 := fun W hT => cmp_at A B W hT (by omega) (by omega)
  have k6 := fun W hT => cmp_at A2 B2 W hT (by omega) (by omega)
  have k7 := fun W hT => cmp_at ⟨#[110, 97, 110]⟩ A W hT (by decide) (by omega)
  have k8 := fun W hT => cmp_at ⟨#[105, 110, 102]⟩ A W hT (by decide) (by omega)
  have k9 := fun W hT => cmp_at ⟨#[45, 73, 110, 102, 105, 110, 105, 116, 121]⟩ A W hT (by decide) (by omega)
  have k10 := fun W hT => cmp_at ⟨#[78, 97, 78]⟩ ⟨#[73, 110, 102, 105, 110, 105, 116, 121]⟩ W hT (by decide) (by decide)
  have k11 := fun W hT => cmp_at ⟨#[78, 97, 78]⟩ ⟨#[110, 97, 110]⟩ W hT (by decide) (by decide)
  have k12 := fun W hT => cmp_at ⟨#[45, 48, 46, 48]⟩ ⟨#[48]⟩ W hT (by decide) (by decide)
  have k13 := fun W hT => cmp_at ⟨#[45, 110, 97, 110]⟩ A W hT (by decide) (by omega)
  rw [zC_of nA nB] at k3
  rw [zC_of nA2 nB2, cmp_not] at k6
  rw [zC_of l1 nA, cmp_nan hX] at k7
  rw [zC_of l2 nA, cmp_infp hX] at k8
  rw [zC_of l3 nA, cmp_infn hX] at k9
  rw [zC_of l4 l5, show Num.nan.cmp (.inf false) = 1 from rfl] at k10
  rw [zC_of l4 l1, show Num.nan.cmp .nan = 0 from rfl] at k11
  rw [zC_of l7 l8, show (Num.fin true 0).cmp (.fin false 0) = 0 from rfl] at k12
  rw [show zE (bytes ⟨#[45, 110, 97, 110]⟩) (bytes A) = 9 from by unfold zE; rw [l6]; rfl] at k13
  have hr := cmp_range (.fin sx X) (.fin sy Y)
  generalize (Num.fin sx X).cmp (.fin sy Y) = p at k3 k6 hr
  have K3 := Lib.hid k3; have K6 := Lib.hid k6; have K7 := Lib.hid k7; have K8 := Lib.hid k8; have K9 := Lib.hid k9; have K10 := Lib.hid k10; have K11 := Lib.hid k11; have K12 := Lib.hid k12; have K13 := Lib.hid k13
  obtain ⟨hr1, hr2⟩ := hr
  clear k3 k6 k7 k8 k9 k10 k11 k12 k13 l1 l2 l3 l4 l5 l6 l7 l8 nA nB nA2 nB2 bA bB bA2 bB2 hA hB hA2 hB2 hX hY
  go_enter Tryz.func5, Tryz.ntmps5
  go_wp2_with fail
  refine (HSH.out _ HT.out hw).mono ?_; rintro e w1 ⟨rfl, hb⟩
  have H1 := Lib.hid hb
  clear hb
  go_wp2_with fail
  refine (K1.out _).mono ?_; rintro e w22 ⟨rfl, hb⟩
  have H22 := Lib.hid (H1.out.on hb)
  clear hb
  go_wp2_with fail
  refine (K2.out _).mono ?_; rintro e w23 ⟨rfl, hb⟩
  have H23 := Lib.hid (H22.out.on hb)
  clear hb
  go_wp2_with fail
  refine (K3.out _ (HT.out.step H23.out)).mono ?_; rintro e w24 ⟨rfl, hb⟩
  have H24 := Lib.hid (H23.out.on hb)
  clear hb
  go_wp2_with fail
  refine (K4.out _).mono ?_; rintro e w25 ⟨rfl, hb⟩
  have H25 := Lib.hid (H24.out.on hb)
  clear hb
  go_wp2_with fail
  refine (K5.out _).mono ?_; rintro e w26 ⟨rfl, hb⟩
  have H26 := Lib.hid (H25.out.on hb)
  clear hb
  go_wp2_with fail
  refine (K6.out _ (HT.out.step H26.out)).mono ?_; rintro e w27 ⟨rfl, hb⟩
  have H27 := Lib.hid (H26.out.on hb)
  clear hb
  go_wp2_with fail
  refine (K7.out _ (HT.out.step H27.out)).mono ?_; rintro e w28 ⟨rfl, hb⟩
  have H28 := Lib.hid (H27.out.on hb)
  clear hb
  go_wp2_with fail
  refine (K8.out _ (HT.out.step H28.out)).mono ?_; rintro e w29 ⟨rfl, hb⟩
  have H29 := Lib.hid (H28.out.on hb)
  clear hb
  go_wp2_with fail
  refine (K9.out _ (HT.out.step H29.out)).mono ?_; rintro e w30 ⟨rfl, hb⟩
  have H30 := Lib.hid (H29.out.on hb)
  clear hb
  go_wp2_with fail
  refine (K10.out _ (HT.out.step H30.out)).mono ?_; rintro e w31 ⟨rfl, hb⟩
  have H31 := Lib.hid (H30.out.on hb)
  clear hb
  go_wp2_with fail
  refine (K11.out _ (HT.out.step H31.out)).mono ?_; rintro e w32 ⟨rfl, hb⟩
  have H32 := Lib.hid (H31.out.on hb)
  clear hb
  go_wp2_with fail
  refine (K12.out _ (HT.out.step H32.out)).mono ?_; rintro e w33 ⟨rfl, hb⟩
  have H33 := Lib.hid (H32.out.on hb)
  clear hb
  go_wp2_with fail
  refine (K13.out _ (HT.out.step H33.out)).mono ?_; rintro e w34 ⟨rfl, hb⟩
  have H34 := Lib.hid (H33.out.on hb)
  clear hb
  go_wp2_with fail
  go_ret
  exact ⟨rfl, H34.out⟩

set_option maxRecDepth 100000 in
theorem edges_lifted (os : Os) (started : os.Started) (H : Type) (enc : TypeId × Value → H) :
    ReturnsInHanded {} Tryz.checked os 5 .any (fun w args => (Rows.realEdgesSpec.pre enc Tryz.prog Tryz.f5 Rows.realEdgesRow.domain false w args ∧ laidMetH Tryz.prog laidL w) ∧ sizedMet enc Tryz.prog Tryz.f5 (OpenSpec.ofChange Rows.realEdgesSpec) false w args) (Rows.realEdgesSpec.post enc Tryz.prog Tryz.f5 false true false false) := by
  refine handed_laid (C := Tryz.checked) (X := fun w _ => laidMetH Tryz.prog laidL w) (fun _ _ _ hh h => h.of_heap hh) own started (by kernel_rfl) Tryz.func5
    (ChangeSpec.witness_shaped (enc := enc) (C := Tryz.checked) (os := os) (X := fun w _ => laidMetH Tryz.prog laidL w) false (World.laidAll Tryz.prog os laidL) #[.int .i64 0, .int .i64 0] 8 (World.laidAll_os _ _ _) (World.shaped_of_ZipB (by kernel_rfl) (by kernel_rfl)) (by kernel_rfl) (by kernel_rfl) (by kernel_rfl)
      (by rw [MakeChecks.laidMetH_plain _ _ _ (by kernel_rfl)]; exact laidMet_laidAll _ (by kernel_rfl) (by kernel_rfl))) ?_
  intro W base args ds gs before hval0 hW hsz0 hsh hL
  obtain ⟨m, hm⟩ : ∃ m, W.cell? ⟨4, 0, none⟩ = some (.int .i64 m) := Tryz.laysM145.s1_3 W hsh
  have hT := tabs_of_laid ⟨m, hm⟩ hL
  have hw : 1 ≤ W.heap.size := Nat.lt_of_le_of_lt (Nat.zero_le _) (World.block_lt_of_cell? W ⟨4, 0, none⟩ hm)
  have hsz : (DataW.weightsEach Tryz.prog (Tryz.f5.params.toList ++ Rows.realEdgesSpec.plain.varTypes Tryz.prog) (ds ++ gs)).all (· ≤ reachBytes) = true := hsz0
  clear hsz0
  have hval : ∀ (j : Nat) t v, Tryz.f5.params[j]? = some t → args[j]? = some v → Value.okWide Tryz.prog W .any base t v := hval0
  have hW' := hW
  obtain ⟨p, q, hA0, hV, rfl, _, _⟩ := hW
  have hA : DataW.TrodAll enc Tryz.prog W 0 (fun _ => true) true Tryz.f5.params.toList args.toList ds p := hA0
  rw [Tryz.params5] at hA hval hsz
  obtain ⟨v0, v1, d0, d1, p0, p1, rfl, rfl, rfl, h0, h1⟩ := trodAll_two hA
  obtain ⟨rfl, rfl⟩ := trodVars_none hV
  obtain ⟨x, rfl, rfl, rfl, wf_x⟩ := open_int Tryz.underlying3 (hval 0 3 v0 rfl rfl) h0
  have h_x := int_range wf_x
  obtain ⟨y, rfl, rfl, rfl, wf_y⟩ := open_int Tryz.underlying3 (hval 1 3 v1 rfl rfl) h1
  have h_y := int_range wf_y
  refine (edges_walk W x y hT hw h_x h_y).mono fun e W' ⟨he, hb⟩ => ?_
  subst he
  exact ⟨_, rfl, law_shut laidOut (by kernel_rfl) (by kernel_rfl) Tryz.underlying4 rfl hW' rfl hb⟩

theorem edges_holds : Rows.RealEdgesSaid :=
  OpenClaim.holds_of_wide 5 Tryz.f5 rfl rfl rfl rfl rfl rfl rfl ⟨rfl, rfl, rfl, rfl, rfl⟩ rfl rfl rfl rfl rfl (by kernel_rfl) Tryz.func5 (by kernel_rfl)
    (of_decide_eq_true (by kernel_rfl)) (by unfold Func.isWrapper; rw [if_neg (of_decide_eq_false (by kernel_rfl))]; exact ⟨rfl, rfl⟩)
    (fun os started H enc _ => edges_lifted os started H enc)

theorem edges_card : Rows.RealEdgesCardSaid :=
  Claim7.holds_tied_plain_at .later [] [.data, .data, .widerDeep, .widerDeep, .data, .data, .data, .data, .data, .data, .sentinel, .sentinel, .pinned, .pinned, .pinned] true _ true edges_holds (fun _ h => by cases h) (by kernel_rfl) (fun _ h => by cases h) realEdges_row_tie rfl ⟨rfl, rfl⟩ (by kernel_rfl) rfl
    (fun f fn hf hfn => by
      obtain rfl : f = 5 := Option.some.inj ((show Tryz.prog.funcNamed "taxirank/taxiranklaw5.RealEdges" = some 5 by kernel_rfl).symm.trans hf) |>.symm
      obtain rfl : fn = Tryz.f5 := (Option.some.inj (Tryz.func5.symm.trans hfn)).symm
      exact ⟨by kernel_rfl, fun j t ht => by
        rw [Tryz.params5] at ht
        have hm : t ∈ [3, 3] := by simpa using Array.mem_of_getElem? ht
        have hall : ([3, 3].all fun u => !Tryz.prog.wantsStandIn u) = true := by kernel_rfl
        exact (show Tryz.prog.wantsStandIn t = false by simpa using List.all_eq_true.1 hall t hm)⟩)
    (by kernel_rfl)
end Go.Proofs.YtdlhmcogpmdonaaGreatDoor
