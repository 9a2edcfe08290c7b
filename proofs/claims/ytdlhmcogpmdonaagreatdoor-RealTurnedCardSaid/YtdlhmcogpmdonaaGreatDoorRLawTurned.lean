/- What is between two numbers is, with the other sign, between both with the other sign, turned: RealTurned answers true, whatever three numbers it is called with. (Over the listed tables of the library, tied to the program's text.) -/
import Derived.Test.YtdlhmcogpmdonaaGreatDoorRCard
import Derived.Test.YtdlhmcogpmdonaaGreatDoorRShown
import Derived.Test.YtdlhmcogpmdonaaGreatDoorROrdM
import Derived.Test.YtdlhmcogpmdonaaGreatDoorRTextsB
namespace Go.Proofs.YtdlhmcogpmdonaaGreatDoor
open Go.RowKit Go.Lib Go.WideShapes Go.ChangeShapes Go.ChangeAt Go.Joins

theorem bB_of {v a b : Bs} {n k m : Num} (h : numB v = some n) (h' : numB a = some k) (h2 : numB b = some m) : bB v a b = (decide (0 ≤ n.cmp k) && decide (n.cmp m ≤ 0)) := by
  unfold bB
  rw [zC_of h h', zC_of h h2, h, h', h2]; rfl
theorem bE_of {v a b : Bs} {n k m : Num} (h : numB v = some n) (h' : numB a = some k) (h2 : numB b = some m) : bE v a b = 0 := by
  unfold bE; rw [h, h', h2]; rfl
set_option maxRecDepth 100000 in
set_option maxHeartbeats 16000000 in
theorem turned_walk (w : World) (v a b : Int) (hT : Tabs w) (hw : 1 ≤ w.heap.size) (hv : -9223372036854775808 ≤ v ∧ v ≤ 9223372036854775807) (ha : -9223372036854775808 ≤ a ∧ a ≤ 9223372036854775807) (hb : -9223372036854775808 ≤ b ∧ b ≤ 9223372036854775807) :
    Calls Tryz.prog 9 #[.int .i64 v, .int .i64 a, .int .i64 b] w fun e w' => e = .returned (.bool true) ∧ Below w.heap.size w w' := by
  have HSH := Lib.hid (fun W hT hw => shown_any W hT hw)
  have HT := Lib.hid hT
  clear hT
  have KV := Lib.hid (fun W => txt_at v W hv)
  have KA := Lib.hid (fun W => txt_at a W ha)
  have KB := Lib.hid (fun W => txt_at b W hb)
  have hX := magI_lt v; have hY := magI_lt a; have hZ := magI_lt b
  clear hv ha hb
  generalize magI v = X at KV hX
  generalize magI a = Y at KA hY
  generalize magI b = Z at KB hZ
  generalize negI v = sx at KV
  generalize negI a = sy at KA
  generalize negI b = sz at KB
  obtain ⟨V1, hV1⟩ : ∃ A : ByteArray, A = ⟨(txt sx X).toArray⟩ := ⟨_, rfl⟩
  obtain ⟨V2, hV2⟩ : ∃ A : ByteArray, A = ⟨(txt (!sx) X).toArray⟩ := ⟨_, rfl⟩
  have bV1 : bytes V1 = txt sx X := by rw [hV1, bytes_mk]
  have bV2 : bytes V2 = txt (!sx) X := by rw [hV2, bytes_mk]
  have zV1 : V1.size ≤ 17 := by rw [← bytes_len, bV1]; exact txt_len _ _
  have zV2 : V2.size ≤ 17 := by rw [← bytes_len, bV2]; exact txt_len _ _
  have MV := Lib.hid (fun W => min_at V1 sx X W bV1)
  rw [← hV1] at KV
  rw [← hV2] at MV
  have nV1 := txt_num sx hX; have nV2 := txt_num (!sx) hX
  rw [← bV1] at nV1
  rw [← bV2] at nV2
  obtain ⟨A1, hA1⟩ : ∃ A : ByteArray, A = ⟨(txt sy Y).toArray⟩ := ⟨_, rfl⟩
  obtain ⟨A2, hA2⟩ : ∃ A : ByteArray, A = ⟨(txt (!sy) Y).toArray⟩ := ⟨_, rfl⟩
  have bA1 : bytes A1 = txt sy Y := by rw [hA1, bytes_mk]
  have bA2 : bytes A2 = txt (!sy) Y := by rw [hA2, bytes_mk]
  have zA1 : A1.size ≤ 17 := by rw [← bytes_len, bA1]; exact txt_len _ _
  have zA2 : A2.size ≤ 17 := by rw [← bytes_len, bA2]; exact txt_len _ _
  have MA := Lib.hid (fun W => min_at A1 sy Y W bA1)
  rw [← hA1] at KA
  rw [← hA2] at MA
  have nA1 := txt_num sy hY; have nA2 := txt_num (!sy) hY
  rw [← bA1] at nA1
  rw [← bA2] at nA2
  obtain ⟨B1, hB1⟩ : ∃ A : ByteArray, A = ⟨(txt sz Z).toArray⟩ := ⟨_, rfl⟩
  obtain ⟨B2, hB2⟩ : ∃ A : ByteArray, A = ⟨(txt (!sz) Z).toArray⟩ := ⟨_, rfl⟩
  have bB1 : bytes B1 = txt sz Z := by rw [hB1, bytes_mk]
  have bB2 : bytes B2 = txt (!sz) Z := by rw [hB2, bytes_mk]
  have zB1 : B1.size ≤ 17 := by rw [← bytes_len, bB1]; exact txt_len _ _
  have zB2 : B2.size ≤ 17 := by rw [← bytes_len, bB2]; exact txt_len _ _
  have MB := Lib.hid (fun W => min_at B1 sz Z W bB1)
  rw [← hB1] at KB
  rw [← hB2] at MB
  have nB1 := txt_num sz hZ; have nB2 := txt_num (!sz) hZ
  rw [← bB1] at nB1
  rw [← bB2] at nB2
  have l1 : numB (bytes ⟨#[110, 97, 110]⟩) = some .nan := rfl
  have l2 : numB (bytes ⟨#[105, 110, 102]⟩) = some (.inf false) := rfl
  have l3 : numB (bytes ⟨#[45, 105, 110, 102]⟩) = some (.inf true) := rfl
  have k1 := fun W hT => between_at V1 A1 B1 W hT (by omega) (by omega) (by omega)
  have k2 := fun W hT => between_at V2 B2 A2 W hT (by omega) (by omega) (by omega)
  have k3 := fun W hT => between_at V1 ⟨#[45, 105, 110, 102]⟩ ⟨#[105, 110, 102]⟩ W hT (by omega) (by decide) (by decide)
  have k4 := fun W hT => between_at ⟨#[110, 97, 110]⟩ A1 B1 W hT (by decide) (by omega) (by omega)
  rw [bB_of nV1 nA1 nB1, bE_of nV1 nA1 nB1] at k1
  rw [bB_of nV2 nB2 nA2, bE_of nV2 nB2 nA2, cmp_not, cmp_not] at k2
  rw [bB_of nV1 l3 l2, bE_of nV1 l3 l2, cmp_flip (.inf true), cmp_flip (.inf false), cmp_infn hX, cmp_infp hX] at k3
  rw [bB_of l1 nA1 nB1, bE_of l1 nA1 nB1, cmp_nan hY, cmp_nan hZ] at k4
  rw [show (decide ((0 : Int) ≤ - -1) && decide (-(1 : Int) ≤ 0)) = true from by decide] at k3
  rw [show (decide ((0 : Int) ≤ 1) && decide ((1 : Int) ≤ 0)) = false from by decide] at k4
  have hsame : (decide (0 ≤ -((Num.fin sx X).cmp (.fin sz Z))) && decide (-((Num.fin sx X).cmp (.fin sy Y)) ≤ 0)) = (decide (0 ≤ (Num.fin sx X).cmp (.fin sy Y)) && decide ((Num.fin sx X).cmp (.fin sz Z) ≤ 0)) := by
    generalize (Num.fin sx X).cmp (.fin sz Z) = q
    generalize (Num.fin sx X).cmp (.fin sy Y) = p
    rw [Bool.and_comm]
    congr 1
    · exact decide_eq_decide.2 ⟨fun h => by omega, fun h => by omega⟩
    · exact decide_eq_decide.2 ⟨fun h => by omega, fun h => by omega⟩
  rw [hsame] at k2
  clear hsame
  generalize (decide (0 ≤ (Num.fin sx X).cmp (.fin sy Y)) && decide ((Num.fin sx X).cmp (.fin sz Z) ≤ 0)) = r at k1 k2
  have K1 := Lib.hid k1; have K2 := Lib.hid k2; have K3 := Lib.hid k3; have K4 := Lib.hid k4
  clear k1 k2 k3 k4 l1 l2 l3 nV1 nV2 nA1 nA2 nB1 nB2 bV1 bV2 bA1 bA2 bB1 bB2 hV1 hV2 hA1 hA2 hB1 hB2 hX hY hZ
  go_enter Tryz.func9, Tryz.ntmps9
  go_wp2_with fail
  refine (HSH.out _ HT.out hw).mono ?_; rintro e w1 ⟨rfl, hb⟩
  have H1 := Lib.hid hb
  clear hb
  go_wp2_with fail
  refine (KV.out _).mono ?_; rintro e w22 ⟨rfl, hb⟩
  have H22 := Lib.hid (H1.out.on hb)
  clear hb
  go_wp2_with fail
  refine (KA.out _).mono ?_; rintro e w23 ⟨rfl, hb⟩
  have H23 := Lib.hid (H22.out.on hb)
  clear hb
  go_wp2_with fail
  refine (KB.out _).mono ?_; rintro e w24 ⟨rfl, hb⟩
  have H24 := Lib.hid (H23.out.on hb)
  clear hb
  go_wp2_with fail
  refine (K1.out _ (HT.out.step H24.out)).mono ?_; rintro e w25 ⟨rfl, hb⟩
  have H25 := Lib.hid (H24.out.on hb)
  clear hb
  go_wp2_with fail
  refine (KV.out _).mono ?_; rintro e w26 ⟨rfl, hb⟩
  have H26 := Lib.hid (H25.out.on hb)
  clear hb
  go_wp2_with fail
  refine (MV.out _).mono ?_; rintro e w27 ⟨rfl, hb⟩
  have H27 := Lib.hid (H26.out.on hb)
  clear hb
  go_wp2_with fail
  refine (KB.out _).mono ?_; rintro e w28 ⟨rfl, hb⟩
  have H28 := Lib.hid (H27.out.on hb)
  clear hb
  go_wp2_with fail
  refine (MB.out _).mono ?_; rintro e w29 ⟨rfl, hb⟩
  have H29 := Lib.hid (H28.out.on hb)
  clear hb
  go_wp2_with fail
  refine (KA.out _).mono ?_; rintro e w30 ⟨rfl, hb⟩
  have H30 := Lib.hid (H29.out.on hb)
  clear hb
  go_wp2_with fail
  refine (MA.out _).mono ?_; rintro e w31 ⟨rfl, hb⟩
  have H31 := Lib.hid (H30.out.on hb)
  clear hb
  go_wp2_with fail
  refine (K2.out _ (HT.out.step H31.out)).mono ?_; rintro e w32 ⟨rfl, hb⟩
  have H32 := Lib.hid (H31.out.on hb)
  clear hb
  go_wp2_with fail
  refine (KV.out _).mono ?_; rintro e w33 ⟨rfl, hb⟩
  have H33 := Lib.hid (H32.out.on hb)
  clear hb
  go_wp2_with fail
  refine (K3.out _ (HT.out.step H33.out)).mono ?_; rintro e w34 ⟨rfl, hb⟩
  have H34 := Lib.hid (H33.out.on hb)
  clear hb
  go_wp2_with fail
  refine (KA.out _).mono ?_; rintro e w35 ⟨rfl, hb⟩
  have H35 := Lib.hid (H34.out.on hb)
  clear hb
  go_wp2_with fail
  refine (KB.out _).mono ?_; rintro e w36 ⟨rfl, hb⟩
  have H36 := Lib.hid (H35.out.on hb)
  clear hb
  go_wp2_with fail
  refine (K4.out _ (HT.out.step H36.out)).mono ?_; rintro e w37 ⟨rfl, hb⟩
  have H37 := Lib.hid (H36.out.on hb)
  clear hb
  go_wp2_with fail
  go_ret
  exact ⟨rfl, H37.out⟩

set_option maxRecDepth 100000 in
theorem turned_lifted (os : Os) (started : os.Started) (H : Type) (enc : TypeId × Value → H) :
    ReturnsInHanded {} Tryz.checked os 9 .any (fun w args => (Rows.realTurnedSpec.pre enc Tryz.prog Tryz.f9 Rows.realTurnedRow.domain false w args ∧ laidMetH Tryz.prog laidL w) ∧ sizedMet enc Tryz.prog Tryz.f9 (OpenSpec.ofChange Rows.realTurnedSpec) false w args) (Rows.realTurnedSpec.post enc Tryz.prog Tryz.f9 false true false false) := by
  refine handed_laid (C := Tryz.checked) (X := fun w _ => laidMetH Tryz.prog laidL w) (fun _ _ _ hh h => h.of_heap hh) own started (by kernel_rfl) Tryz.func9
    (ChangeSpec.witness_shaped (enc := enc) (C := Tryz.checked) (os := os) (X := fun w _ => laidMetH Tryz.prog laidL w) false (World.laidAll Tryz.prog os laidL) #[.int .i64 0, .int .i64 0, .int .i64 0] 8 (World.laidAll_os _ _ _) (World.shaped_of_ZipB (by kernel_rfl) (by kernel_rfl)) (by kernel_rfl) (by kernel_rfl) (by kernel_rfl)
      (by rw [MakeChecks.laidMetH_plain _ _ _ (by kernel_rfl)]; exact laidMet_laidAll _ (by kernel_rfl) (by kernel_rfl))) ?_
  intro W base args ds gs before hval0 hW hsz0 hsh hL
  obtain ⟨m, hm⟩ : ∃ m, W.cell? ⟨4, 0, none⟩ = some (.int .i64 m) := Tryz.laysM145.s1_3 W hsh
  have hT := tabs_of_laid ⟨m, hm⟩ hL
  have hw : 1 ≤ W.heap.size := Nat.lt_of_le_of_lt (Nat.zero_le _) (World.block_lt_of_cell? W ⟨4, 0, none⟩ hm)
  have hsz : (DataW.weightsEach Tryz.prog (Tryz.f9.params.toList ++ Rows.realTurnedSpec.plain.varTypes Tryz.prog) (ds ++ gs)).all (· ≤ reachBytes) = true := hsz0
  clear hsz0
  have hval : ∀ (j : Nat) t v, Tryz.f9.params[j]? = some t → args[j]? = some v → Value.okWide Tryz.prog W .any base t v := hval0
  have hW' := hW
  obtain ⟨p, q, hA0, hV, rfl, _, _⟩ := hW
  have hA : DataW.TrodAll enc Tryz.prog W 0 (fun _ => true) true Tryz.f9.params.toList args.toList ds p := hA0
  rw [Tryz.params9] at hA hval hsz
  obtain ⟨v0, v1, v2, d0, d1, d2, p0, p1, p2, rfl, rfl, rfl, h0, h1, h2⟩ := trodAll_three hA
  obtain ⟨rfl, rfl⟩ := trodVars_none hV
  obtain ⟨x, rfl, rfl, rfl, wf_x⟩ := open_int Tryz.underlying3 (hval 0 3 v0 rfl rfl) h0
  have h_x := int_range wf_x
  obtain ⟨y, rfl, rfl, rfl, wf_y⟩ := open_int Tryz.underlying3 (hval 1 3 v1 rfl rfl) h1
  have h_y := int_range wf_y
  obtain ⟨z, rfl, rfl, rfl, wf_z⟩ := open_int Tryz.underlying3 (hval 2 3 v2 rfl rfl) h2
  have h_z := int_range wf_z
  refine (turned_walk W x y z hT hw h_x h_y h_z).mono fun e W' ⟨he, hb⟩ => ?_
  subst he
  exact ⟨_, rfl, law_shut laidOut (by kernel_rfl) (by kernel_rfl) Tryz.underlying4 rfl hW' rfl hb⟩

theorem turned_holds : Rows.RealTurnedSaid :=
  OpenClaim.holds_of_wide 9 Tryz.f9 rfl rfl rfl rfl rfl rfl rfl ⟨rfl, rfl, rfl, rfl, rfl⟩ rfl rfl rfl rfl rfl (by kernel_rfl) Tryz.func9 (by kernel_rfl)
    (of_decide_eq_true (by kernel_rfl)) (by unfold Func.isWrapper; rw [if_neg (of_decide_eq_false (by kernel_rfl))]; exact ⟨rfl, rfl⟩)
    (fun os started H enc _ => turned_lifted os started H enc)

theorem turned_card : Rows.RealTurnedCardSaid :=
  Claim7.holds_tied_plain_at .later [] [.data, .data, .widerDeep, .widerDeep, .data, .data, .data, .data, .data, .data, .sentinel, .sentinel, .pinned, .pinned, .pinned] true _ true turned_holds (fun _ h => by cases h) (by kernel_rfl) (fun _ h => by cases h) realTurned_row_tie rfl ⟨rfl, rfl⟩ (by kernel_rfl) rfl
    (fun f fn hf hfn => by
      obtain rfl : f = 9 := Option.some.inj ((show Tryz.prog.funcNamed "taxirank/taxiranklaw5.RealTurned" = some 9 by kernel_rfl).symm.trans hf) |>.symm
      obtain rfl : fn = Tryz.f9 := (Option.some.inj (Tryz.func9.symm.trans hfn)).symm
      exact ⟨by kernel_rfl, fun j t ht => by
        rw [Tryz.params9] at ht
        have hm : t ∈ [3, 3, 3] := by simpa using Array.mem_of_getElem? ht
        have hall : ([3, 3, 3].all fun u => !Tryz.prog.wantsStandIn u) = true := by kernel_rfl
        exact (show Tryz.prog.wantsStandIn t = false by simpa using List.all_eq_true.1 hall t hm)⟩)
    (by kernel_rfl)
end Go.Proofs.YtdlhmcogpmdonaaGreatDoor
