/- Whole numbers stand in order as they do, whatever noughts and signs they are written with: RealInts answers true, whatever three numbers it is called with. (Over the listed tables of the library, tied to the program's text.) -/
import Derived.Test.YtdlhmcogpmdonaaGreatDoorRCard
import Derived.Test.YtdlhmcogpmdonaaGreatDoorRShown
import Derived.Test.YtdlhmcogpmdonaaGreatDoorRIntsM
namespace Go.Proofs.YtdlhmcogpmdonaaGreatDoor
open Go.RowKit Go.Lib Go.WideShapes Go.ChangeShapes Go.ChangeAt Go.Joins

theorem whole_at (x : Int) (Z : ByteArray) (w : World) (h0 : -1000000 < x ∧ x < 1000000) (hZ : Z.size ≤ 3) :
    Calls Tryz.prog 19 #[.int .i64 x, .string Z] w fun e w' => e = .returned (.string ⟨(wholeT x (bytes Z)).toArray⟩) ∧ Below w.heap.size w w' :=
  (whole_any x Z w h0 hZ).mono fun e w' h => ⟨h.1, by obtain ⟨_, rfl⟩ := h; exact Below.refl _ _⟩
abbrev zerosA : Array Value := #[.string { data := #[] }, .string { data := #[48] }, .string { data := #[48, 48] }, .string { data := #[48, 48, 48] }]
theorem zeros_at (i : Nat) (hi : i < 4) : ∃ Z : ByteArray, zerosA[i]? = some (.string Z) ∧ bytes Z = nou i ∧ Z.size ≤ 3 := by
  rcases (by omega : i = 0 ∨ i = 1 ∨ i = 2 ∨ i = 3) with rfl | rfl | rfl | rfl
  · exact ⟨_, rfl, rfl, by decide⟩
  · exact ⟨_, rfl, rfl, by decide⟩
  · exact ⟨_, rfl, rfl, by decide⟩
  · exact ⟨_, rfl, rfl, by decide⟩
set_option maxRecDepth 100000 in
set_option maxHeartbeats 16000000 in
theorem ints_walk (w : World) (a b k : Int) (hT : Tabs w) (hw : 1 ≤ w.heap.size) (hk : -9223372036854775808 ≤ k ∧ k ≤ 9223372036854775807) :
    Calls Tryz.prog 8 #[.int .i64 a, .int .i64 b, .int .i64 k] w fun e w' => e = .returned (.bool true) ∧ Below w.heap.size w w' := by
  have HSH := Lib.hid (fun W hT hw => shown_any W hT hw)
  have HT := Lib.hid hT
  obtain ⟨k1, k2⟩ := hk
  obtain ⟨K, hK⟩ : ∃ u : Nat, (u : Int) = if k < 0 then -(k + 1) else k := ⟨(if k < 0 then -(k + 1) else k).toNat, by split <;> omega⟩
  obtain ⟨x, hx⟩ : ∃ x, x = a.tmod 1000000 := ⟨_, rfl⟩
  obtain ⟨y, hy⟩ : ∃ y, y = b.tmod 1000000 := ⟨_, rfl⟩
  have x1 : -1000000 < x ∧ x < 1000000 := by rw [hx]; exact ⟨by have := Int.tmod_lt_of_pos (-a) (show (0 : Int) < 1000000 by decide); rw [Int.neg_tmod] at this; omega, Int.tmod_lt_of_pos a (by decide)⟩
  have y1 : -1000000 < y ∧ y < 1000000 := by rw [hy]; exact ⟨by have := Int.tmod_lt_of_pos (-b) (show (0 : Int) < 1000000 by decide); rw [Int.neg_tmod] at this; omega, Int.tmod_lt_of_pos b (by decide)⟩
  have HK := Lib.hid hK
  obtain ⟨i, hi⟩ : ∃ i, i = K % 4 := ⟨_, rfl⟩
  obtain ⟨j, hj⟩ : ∃ j, j = K / 4 % 4 := ⟨_, rfl⟩
  have hi4 : i < 4 := by omega
  have hj4 : j < 4 := by omega
  obtain ⟨Z1, c1, b1, z1⟩ := zeros_at i hi4
  obtain ⟨Z2, c2, b2, z2⟩ := zeros_at j hj4
  have KS := Lib.hid (fun W => whole_at x Z1 W x1 z1)
  have KT := Lib.hid (fun W => whole_at y Z2 W y1 z2)
  have KU := Lib.hid (fun W => whole_at x { data := #[] } W x1 (by decide))
  obtain ⟨S, hS⟩ : ∃ S : ByteArray, S = ⟨(wholeT x (bytes Z1)).toArray⟩ := ⟨_, rfl⟩
  obtain ⟨T, hTt⟩ : ∃ S : ByteArray, S = ⟨(wholeT y (bytes Z2)).toArray⟩ := ⟨_, rfl⟩
  obtain ⟨U, hU⟩ : ∃ S : ByteArray, S = ⟨(wholeT x (bytes { data := #[] })).toArray⟩ := ⟨_, rfl⟩
  rw [← hS] at KS
  rw [← hTt] at KT
  rw [← hU] at KU
  have zS : S.size ≤ 10 := by rw [hS, size_mk]; exact wholeT_len x1 (by rw [bytes_len]; exact z1)
  have zT : T.size ≤ 10 := by rw [hTt, size_mk]; exact wholeT_len y1 (by rw [bytes_len]; exact z2)
  have zU : U.size ≤ 10 := by rw [hU, size_mk]; exact wholeT_len x1 (by decide)
  have nS : numB (bytes S) = some (.fin (decide (x < 0)) (x.natAbs * 1000000)) := by rw [hS, bytes_mk, b1]; exact whole_num x1 (by omega)
  have nU : numB (bytes U) = some (.fin (decide (x < 0)) (x.natAbs * 1000000)) := by rw [hU, bytes_mk]; exact whole_num (i := 0) x1 (by decide)
  have nT : numB (bytes (T ++ { data := #[46, 48, 48, 48] })) = some (.fin (decide (y < 0)) (y.natAbs * 1000000)) := by
    rw [bytes_cat, hTt, bytes_mk, b2]; exact whole_num2 y1 (by omega)
  have zT4 : (T ++ { data := #[46, 48, 48, 48] }).size ≤ 14 := by
    rw [← bytes_len, bytes_cat, List.length_append, bytes_len]
    show T.size + 4 ≤ 14
    omega
  have kc := fun W hT => cmp_at S (T ++ { data := #[46, 48, 48, 48] }) W hT (by omega) (by omega)
  have kf := fun W hT hw => canon_at S W hT hw (by omega)
  have kh := fun W hT hw => canon_at U W hT hw (by omega)
  rw [zC_of nS nT, zE_of nS nT, cmp_whole] at kc
  rw [cS_num nS, cE_num nS] at kf
  rw [cS_num nU, cE_num nU] at kh
  obtain ⟨F, hF⟩ : ∃ F : ByteArray, F = ⟨(canonB (.fin (decide (x < 0)) (x.natAbs * 1000000))).toArray⟩ := ⟨_, rfl⟩
  rw [← hF] at kf kh
  have KF := Lib.hid kf; have KH := Lib.hid kh
  have hm1 : (K : Int) % 4 = (i : Nat) := by omega
  have hm2 : (K : Int) / 4 % 4 = (j : Nat) := by omega
  have hx' := hx.symm
  have hy' := hy.symm
  have hKl : (K : Int) ≤ 9223372036854775807 := by split at hK <;> omega
  have hi4' : (i : Int) < 4 := by omega
  have hj4' : (j : Int) < 4 := by omega
  obtain ⟨x2, x3⟩ := x1
  obtain ⟨y2, y3⟩ := y1
  obtain ⟨R, hR⟩ : ∃ R : Int, R = (if x < y then -1 else if y < x then 1 else 0) := ⟨_, rfl⟩
  rw [← hR] at kc
  have KC := Lib.hid kc
  have hRc : (x < y ∧ R = -1) ∨ (y < x ∧ R = 1) ∨ (x = y ∧ R = 0) := by
    rw [hR]
    rcases (by omega : x < y ∨ y < x ∨ x = y) with h | h | h
    · exact .inl ⟨h, if_pos h⟩
    · exact .inr (.inl ⟨h, by rw [if_neg (by omega), if_pos h]⟩)
    · exact .inr (.inr ⟨h, by rw [if_neg (by omega), if_neg (by omega)]⟩)
  have HRC := Lib.hid hRc
  clear hT hK hx hy hS hTt hU nS nU nT zT4 kc kf kh hF hR hRc hi hj b1 b2
  go_enter Tryz.func8, Tryz.ntmps8
  go_wp2_with fail
  refine (HSH.out _ HT.out hw).mono ?_; rintro e w1 ⟨rfl, hb⟩
  have H1 := Lib.hid hb
  clear hb
  go_upto_if 31 with (fail)
  obtain ⟨W2, hW2⟩ : ∃ W2, W2 = w1.alloc (.cells zerosA 9) := ⟨_, rfl⟩
  have d1 : W2.cell? ⟨w1.heap.size, i, none⟩ = some (.string Z1) := by rw [hW2, World.cell?_alloc_new]; exact c1
  have d2 : W2.cell? ⟨w1.heap.size, j, none⟩ = some (.string Z2) := by rw [hW2, World.cell?_alloc_new]; exact c2
  have H2 := Lib.hid (show Below w.heap.size w W2 by rw [hW2]; exact H1.out.alloc H1.out.size _)
  rw [← hW2]
  have hlt : w1.heap.size < W2.heap.size := by rw [hW2, World.size_alloc]; omega
  clear hW2 c1 c2 hi4 hj4
  generalize w1.heap.size = gb at d1 d2 hlt ⊢
  go_cut [11] (fun x wx => x = .int .i64 K ∧ wx = W2)
  case first =>
    by_cases h : k < 0
    · have HX := Lib.hid (show -(k + 1) = (K : Int) by rw [HK.out, if_pos h])
      go_wp2_with fail
      go_meet
      exact ⟨by rw [HX.out], rfl⟩
    · have HX := Lib.hid (show k = (K : Int) by rw [HK.out, if_neg h])
      have h' : 0 ≤ k := by omega
      clear h
      go_wp2_with fail
      go_meet
      exact ⟨by rw [HX.out], rfl⟩
  case rest =>
    obtain ⟨rfl, rfl⟩ := hcut
    clear k1 k2
    go_wp2_with fail
    refine (KS.out _).mono ?_; rintro e w3 ⟨rfl, hb⟩
    have H3 := Lib.hid (H2.out.on hb)
    have d2' := (hb.cell (p := ⟨gb, j, none⟩) hlt).trans d2
    clear hb d1 d2
    go_wp2_with fail
    refine (KT.out _).mono ?_; rintro e w4 ⟨rfl, hb⟩
    have H4 := Lib.hid (H3.out.on hb)
    clear hb d2'
    go_wp2_with fail
    refine (KC.out _ (HT.out.step H4.out)).mono ?_; rintro e w5 ⟨rfl, hb⟩
    have H5 := Lib.hid (H4.out.on hb)
    clear hb
    rcases HRC.out with ⟨h, rfl⟩ | ⟨h, rfl⟩ | ⟨h, rfl⟩
    all_goals
      try (have h' : y ≤ x := by omega)
      try subst h
      go_wp2_with fail
      refine (KF.out _ (HT.out.step H5.out) (Nat.le_trans hw H5.out.size)).mono ?_; rintro e w6 ⟨rfl, hb⟩
      have H6 := Lib.hid (H5.out.on hb)
      clear hb
      go_wp2_with fail
      refine (KU.out _).mono ?_; rintro e w7 ⟨rfl, hb⟩
      have H7 := Lib.hid (H6.out.on hb)
      clear hb
      go_wp2_with fail
      refine (KH.out _ (HT.out.step H7.out) (Nat.le_trans hw H7.out.size)).mono ?_; rintro e w8 ⟨rfl, hb⟩
      have H8 := Lib.hid (H7.out.on hb)
      clear hb
      go_wp2_with fail
      go_ret
      exact ⟨rfl, H8.out⟩

set_option maxRecDepth 100000 in
theorem ints_lifted (os : Os) (started : os.Started) (H : Type) (enc : TypeId × Value → H) :
    ReturnsInHanded {} Tryz.checked os 8 .any (fun w args => (Rows.realIntsSpec.pre enc Tryz.prog Tryz.f8 Rows.realIntsRow.domain false w args ∧ laidMetH Tryz.prog laidL w) ∧ sizedMet enc Tryz.prog Tryz.f8 (OpenSpec.ofChange Rows.realIntsSpec) false w args) (Rows.realIntsSpec.post enc Tryz.prog Tryz.f8 false true false false) := by
  refine handed_laid (C := Tryz.checked) (X := fun w _ => laidMetH Tryz.prog laidL w) (fun _ _ _ hh h => h.of_heap hh) own started (by kernel_rfl) Tryz.func8
    (ChangeSpec.witness_shaped (enc := enc) (C := Tryz.checked) (os := os) (X := fun w _ => laidMetH Tryz.prog laidL w) false (World.laidAll Tryz.prog os laidL) #[.int .i64 0, .int .i64 0, .int .i64 0] 8 (World.laidAll_os _ _ _) (World.shaped_of_ZipB (by kernel_rfl) (by kernel_rfl)) (by kernel_rfl) (by kernel_rfl) (by kernel_rfl)
      (by rw [MakeChecks.laidMetH_plain _ _ _ (by kernel_rfl)]; exact laidMet_laidAll _ (by kernel_rfl) (by kernel_rfl))) ?_
  intro W base args ds gs before hval0 hW hsz0 hsh hL
  obtain ⟨m, hm⟩ : ∃ m, W.cell? ⟨4, 0, none⟩ = some (.int .i64 m) := Tryz.laysM145.s1_3 W hsh
  have hT := tabs_of_laid ⟨m, hm⟩ hL
  have hw : 1 ≤ W.heap.size := Nat.lt_of_le_of_lt (Nat.zero_le _) (World.block_lt_of_cell? W ⟨4, 0, none⟩ hm)
  have hsz : (DataW.weightsEach Tryz.prog (Tryz.f8.params.toList ++ Rows.realIntsSpec.plain.varTypes Tryz.prog) (ds ++ gs)).all (· ≤ reachBytes) = true := hsz0
  clear hsz0
  have hval : ∀ (j : Nat) t v, Tryz.f8.params[j]? = some t → args[j]? = some v → Value.okWide Tryz.prog W .any base t v := hval0
  have hW' := hW
  obtain ⟨p, q, hA0, hV, rfl, _, _⟩ := hW
  have hA : DataW.TrodAll enc Tryz.prog W 0 (fun _ => true) true Tryz.f8.params.toList args.toList ds p := hA0
  rw [Tryz.params8] at hA hval hsz
  obtain ⟨v0, v1, v2, d0, d1, d2, p0, p1, p2, rfl, rfl, rfl, h0, h1, h2⟩ := trodAll_three hA
  obtain ⟨rfl, rfl⟩ := trodVars_none hV
  obtain ⟨x, rfl, rfl, rfl, wf_x⟩ := open_int Tryz.underlying3 (hval 0 3 v0 rfl rfl) h0
  have h_x := int_range wf_x
  obtain ⟨y, rfl, rfl, rfl, wf_y⟩ := open_int Tryz.underlying3 (hval 1 3 v1 rfl rfl) h1
  have h_y := int_range wf_y
  obtain ⟨z, rfl, rfl, rfl, wf_z⟩ := open_int Tryz.underlying3 (hval 2 3 v2 rfl rfl) h2
  have h_z := int_range wf_z
  refine (ints_walk W x y z hT hw h_z).mono fun e W' ⟨he, hb⟩ => ?_
  subst he
  exact ⟨_, rfl, law_shut laidOut (by kernel_rfl) (by kernel_rfl) Tryz.underlying4 rfl hW' rfl hb⟩

theorem ints_holds : Rows.RealIntsSaid :=
  OpenClaim.holds_of_wide 8 Tryz.f8 rfl rfl rfl rfl rfl rfl rfl ⟨rfl, rfl, rfl, rfl, rfl⟩ rfl rfl rfl rfl rfl (by kernel_rfl) Tryz.func8 (by kernel_rfl)
    (of_decide_eq_true (by kernel_rfl)) (by unfold Func.isWrapper; rw [if_neg (of_decide_eq_false (by kernel_rfl))]; exact ⟨rfl, rfl⟩)
    (fun os started H enc _ => ints_lifted os started H enc)

theorem ints_card : Rows.RealIntsCardSaid :=
  Claim7.holds_tied_plain_at .later [] [.data, .data, .widerDeep, .widerDeep, .data, .data, .data, .data, .data, .data, .sentinel, .sentinel, .pinned, .pinned, .pinned] true _ true ints_holds (fun _ h => by cases h) (by kernel_rfl) (fun _ h => by cases h) realInts_row_tie rfl ⟨rfl, rfl⟩ (by kernel_rfl) rfl
    (fun f fn hf hfn => by
      obtain rfl : f = 8 := Option.some.inj ((show Tryz.prog.funcNamed "taxirank/taxiranklaw5.RealInts" = some 8 by kernel_rfl).symm.trans hf) |>.symm
      obtain rfl : fn = Tryz.f8 := (Option.some.inj (Tryz.func8.symm.trans hfn)).symm
      exact ⟨by kernel_rfl, fun j t ht => by
        rw [Tryz.params8] at ht
        have hm : t ∈ [3, 3, 3] := by simpa using Array.mem_of_getElem? ht
        have hall : ([3, 3, 3].all fun u => !Tryz.prog.wantsStandIn u) = true := by kernel_rfl
        exact (show Tryz.prog.wantsStandIn t = false by simpa using List.all_eq_true.1 hall t hm)⟩)
    (by kernel_rfl)
end Go.Proofs.YtdlhmcogpmdonaaGreatDoor
