/- A number is between two just if neither is on the wrong side of it; between itself and itself each one is; bounds that are turned have nothing between: RealBetween answers true, whatever three texts it is called with, and leaves what was there as it was. (Over the listed tables of the library, tied to the program's text.) -/
import Derived.Test.YtdlhmcogpmdonaaGreatDoorRCard
import Derived.Test.YtdlhmcogpmdonaaGreatDoorRShown
import Derived.Test.YtdlhmcogpmdonaaGreatDoorROrdM
namespace Go.Proofs.YtdlhmcogpmdonaaGreatDoor
open Go.RowKit Go.Lib Go.WideShapes Go.ChangeShapes Go.ChangeAt Go.Joins

theorem bB_of {v a b : Bs} {n k m : Num} (h : numB v = some n) (h' : numB a = some k) (h2 : numB b = some m) : bB v a b = (decide (0 ≤ n.cmp k) && decide (n.cmp m ≤ 0)) := by
  unfold bB
  rw [zC_of h h', zC_of h h2, h, h', h2]; rfl
theorem bE_of {v a b : Bs} {n k m : Num} (h : numB v = some n) (h' : numB a = some k) (h2 : numB b = some m) : bE v a b = 0 := by
  unfold bE; rw [h, h', h2]; rfl
set_option maxRecDepth 100000 in
set_option maxHeartbeats 16000000 in
theorem between_walk (w : World) (v a b : ByteArray) (hT : Tabs w) (hw : 1 ≤ w.heap.size) (za : v.size ≤ 140737488351232) (zb : a.size ≤ 140737488351232) (zc : b.size ≤ 140737488351232) :
    Calls Tryz.prog 6 #[.string v, .string a, .string b] w fun e w' => e = .returned (.bool true) ∧ Below w.heap.size w w' := by
  have HSH := Lib.hid (fun W hT hw => shown_any W hT hw)
  have HT := Lib.hid hT
  clear hT
  by_cases hz : v.size + a.size + b.size ≤ 3000
  · have hz' : (v.size : Int) + a.size + b.size ≤ 3000 := by omega
    have k1 := fun W hT => between_at v a b W hT (by omega) (by omega) (by omega)
    have k2 := fun W hT => cmp_at a v W hT (by omega) (by omega)
    have k3 := fun W hT => cmp_at v b W hT (by omega) (by omega)
    by_cases hall : (numB (bytes v)).isSome = true ∧ (numB (bytes a)).isSome = true ∧ (numB (bytes b)).isSome = true
    · obtain ⟨i1, i2, i3⟩ := hall
      obtain ⟨n, hn⟩ := Option.isSome_iff_exists.1 i1
      obtain ⟨k, hk⟩ := Option.isSome_iff_exists.1 i2
      obtain ⟨m, hm⟩ := Option.isSome_iff_exists.1 i3
      have k4 := fun W hT => between_at v v v W hT (by omega) (by omega) (by omega)
      have k5 := fun W hT => cmp_at a b W hT (by omega) (by omega)
      rw [bB_of hn hk hm, bE_of hn hk hm] at k1
      rw [zC_of hk hn, zE_of hk hn, cmp_flip n k] at k2
      rw [zC_of hn hm, zE_of hn hm] at k3
      rw [bB_of hn hn hn, bE_of hn hn hn, cmp_self, show (decide ((0 : Int) ≤ 0) && decide ((0 : Int) ≤ 0)) = true from by decide] at k4
      rw [zC_of hk hm, zE_of hk hm] at k5
      have hs1 := cmp_range n k; have hs2 := cmp_range n m; have hs3 := cmp_range k m
      have hth : 0 ≤ n.cmp k → n.cmp m ≤ 0 → k.cmp m ≤ 0 := by
        have h1 := cmp_sign n k; have h2 := cmp_sign n m; have h3 := cmp_sign k m
        intro x y; omega
      generalize n.cmp k = p at k1 k2 hs1 hth
      generalize n.cmp m = q at k1 k3 hs2 hth
      generalize k.cmp m = r at k5 hs3 hth
      clear i1 i2 i3 hn hk hm hz
      obtain ⟨p1, p2⟩ := hs1
      obtain ⟨q1, q2⟩ := hs2
      obtain ⟨r1, r2⟩ := hs3
      have hc : (0 ≤ p ∧ q ≤ 0 ∧ r ≤ 0) ∨ (0 ≤ p ∧ 0 < q) ∨ p < 0 := by omega
      clear hth
      rcases hc with ⟨h1, h2, h3⟩ | ⟨h1, h2⟩ | h1
      · rw [decide_eq_true h1, decide_eq_true h2] at k1
        have K1 := Lib.hid k1; have K2 := Lib.hid k2; have K3 := Lib.hid k3; have K4 := Lib.hid k4; have K5 := Lib.hid k5
        clear k1 k2 k3 k4 k5
        go_enter Tryz.func6, Tryz.ntmps6
        go_wp2_with fail
        refine (HSH.out _ HT.out hw).mono ?_; rintro e w1 ⟨rfl, hb⟩
        have H1 := Lib.hid hb
        clear hb
        go_wp2_with fail
        refine (K1.out _ (HT.out.step H1.out)).mono ?_; rintro e w22 ⟨rfl, hb⟩
        have H22 := Lib.hid (H1.out.on hb)
        clear hb
        go_wp2_with fail
        refine (K2.out _ (HT.out.step H22.out)).mono ?_; rintro e w23 ⟨rfl, hb⟩
        have H23 := Lib.hid (H22.out.on hb)
        clear hb
        go_wp2_with fail
        refine (K3.out _ (HT.out.step H23.out)).mono ?_; rintro e w24 ⟨rfl, hb⟩
        have H24 := Lib.hid (H23.out.on hb)
        clear hb
        go_wp2_with fail
        refine (K4.out _ (HT.out.step H24.out)).mono ?_; rintro e w25 ⟨rfl, hb⟩
        have H25 := Lib.hid (H24.out.on hb)
        clear hb
        go_wp2_with fail
        refine (K5.out _ (HT.out.step H25.out)).mono ?_; rintro e w26 ⟨rfl, hb⟩
        have H26 := Lib.hid (H25.out.on hb)
        clear hb
        go_wp2_with fail
        go_ret
        exact ⟨rfl, H26.out⟩
      · have h2d : decide (q ≤ 0) = false := decide_eq_false (by omega)
        rw [decide_eq_true h1, h2d] at k1
        have H2D := Lib.hid h2d
        clear h2d
        have K1 := Lib.hid k1; have K2 := Lib.hid k2; have K3 := Lib.hid k3; have K4 := Lib.hid k4; have K5 := Lib.hid k5
        clear k1 k2 k3 k4 k5
        go_enter Tryz.func6, Tryz.ntmps6
        go_wp2_with fail
        refine (HSH.out _ HT.out hw).mono ?_; rintro e w1 ⟨rfl, hb⟩
        have H1 := Lib.hid hb
        clear hb
        go_wp2_with fail
        refine (K1.out _ (HT.out.step H1.out)).mono ?_; rintro e w22 ⟨rfl, hb⟩
        have H22 := Lib.hid (H1.out.on hb)
        clear hb
        go_wp2_with fail
        refine (K2.out _ (HT.out.step H22.out)).mono ?_; rintro e w23 ⟨rfl, hb⟩
        have H23 := Lib.hid (H22.out.on hb)
        clear hb
        go_wp2_with fail
        refine (K3.out _ (HT.out.step H23.out)).mono ?_; rintro e w24 ⟨rfl, hb⟩
        have H24 := Lib.hid (H23.out.on hb)
        clear hb
        go_wp2_with fail
        refine (K4.out _ (HT.out.step H24.out)).mono ?_; rintro e w25 ⟨rfl, hb⟩
        have H25 := Lib.hid (H24.out.on hb)
        clear hb
        go_wp2_with fail
        refine (K5.out _ (HT.out.step H25.out)).mono ?_; rintro e w26 ⟨rfl, hb⟩
        have H26 := Lib.hid (H25.out.on hb)
        clear hb
        go_wp2_with fail
        all_goals
          try simp only [H2D.out, Bool.not_false]
          go_ret
          exact ⟨rfl, H26.out⟩
      · rw [decide_eq_false (show ¬ 0 ≤ p by omega)] at k1
        have K1 := Lib.hid k1; have K2 := Lib.hid k2; have K3 := Lib.hid k3; have K4 := Lib.hid k4; have K5 := Lib.hid k5
        clear k1 k2 k3 k4 k5
        go_enter Tryz.func6, Tryz.ntmps6
        go_wp2_with fail
        refine (HSH.out _ HT.out hw).mono ?_; rintro e w1 ⟨rfl, hb⟩
        have H1 := Lib.hid hb
        clear hb
        go_wp2_with fail
        refine (K1.out _ (HT.out.step H1.out)).mono ?_; rintro e w22 ⟨rfl, hb⟩
        have H22 := Lib.hid (H1.out.on hb)
        clear hb
        go_wp2_with fail
        refine (K2.out _ (HT.out.step H22.out)).mono ?_; rintro e w23 ⟨rfl, hb⟩
        have H23 := Lib.hid (H22.out.on hb)
        clear hb
        go_wp2_with fail
        refine (K3.out _ (HT.out.step H23.out)).mono ?_; rintro e w24 ⟨rfl, hb⟩
        have H24 := Lib.hid (H23.out.on hb)
        clear hb
        go_wp2_with fail
        refine (K4.out _ (HT.out.step H24.out)).mono ?_; rintro e w25 ⟨rfl, hb⟩
        have H25 := Lib.hid (H24.out.on hb)
        clear hb
        go_wp2_with fail
        refine (K5.out _ (HT.out.step H25.out)).mono ?_; rintro e w26 ⟨rfl, hb⟩
        have H26 := Lib.hid (H25.out.on hb)
        clear hb
        go_wp2_with fail
        all_goals
          go_ret
          exact ⟨rfl, H26.out⟩
    · have he : bE (bytes v) (bytes a) (bytes b) = 9 ∧ bB (bytes v) (bytes a) (bytes b) = false ∧ (zE (bytes a) (bytes v) = 9 ∨ (zE (bytes a) (bytes v) = 0 ∧ zE (bytes v) (bytes b) = 9)) := by
        unfold bE bB zE
        revert hall
        cases (numB (bytes v)).isSome <;> cases (numB (bytes a)).isSome <;> cases (numB (bytes b)).isSome <;> intro hall <;> first | exact absurd ⟨rfl, rfl, rfl⟩ hall | exact ⟨rfl, rfl, .inl rfl⟩ | exact ⟨rfl, rfl, .inr ⟨rfl, rfl⟩⟩
      obtain ⟨e1, e2, e3⟩ := he
      rw [e1, e2] at k1
      generalize zC (bytes a) (bytes v) = p at k2
      generalize zC (bytes v) (bytes b) = q at k3
      clear hall e1 e2 hz
      rcases e3 with e3 | ⟨e3, e4⟩
      · rw [e3] at k2
        generalize zE (bytes v) (bytes b) = g at k3
        have K1 := Lib.hid k1; have K2 := Lib.hid k2; have K3 := Lib.hid k3
        clear k1 k2 k3 e3
        go_enter Tryz.func6, Tryz.ntmps6
        go_wp2_with fail
        refine (HSH.out _ HT.out hw).mono ?_; rintro e w1 ⟨rfl, hb⟩
        have H1 := Lib.hid hb
        clear hb
        go_wp2_with fail
        refine (K1.out _ (HT.out.step H1.out)).mono ?_; rintro e w22 ⟨rfl, hb⟩
        have H22 := Lib.hid (H1.out.on hb)
        clear hb
        go_wp2_with fail
        refine (K2.out _ (HT.out.step H22.out)).mono ?_; rintro e w23 ⟨rfl, hb⟩
        have H23 := Lib.hid (H22.out.on hb)
        clear hb
        go_wp2_with fail
        refine (K3.out _ (HT.out.step H23.out)).mono ?_; rintro e w24 ⟨rfl, hb⟩
        have H24 := Lib.hid (H23.out.on hb)
        clear hb
        go_wp2_with fail
        go_ret
        exact ⟨rfl, H24.out⟩
      · rw [e3] at k2
        rw [e4] at k3
        have K1 := Lib.hid k1; have K2 := Lib.hid k2; have K3 := Lib.hid k3
        clear k1 k2 k3 e3 e4
        go_enter Tryz.func6, Tryz.ntmps6
        go_wp2_with fail
        refine (HSH.out _ HT.out hw).mono ?_; rintro e w1 ⟨rfl, hb⟩
        have H1 := Lib.hid hb
        clear hb
        go_wp2_with fail
        refine (K1.out _ (HT.out.step H1.out)).mono ?_; rintro e w22 ⟨rfl, hb⟩
        have H22 := Lib.hid (H1.out.on hb)
        clear hb
        go_wp2_with fail
        refine (K2.out _ (HT.out.step H22.out)).mono ?_; rintro e w23 ⟨rfl, hb⟩
        have H23 := Lib.hid (H22.out.on hb)
        clear hb
        go_wp2_with fail
        refine (K3.out _ (HT.out.step H23.out)).mono ?_; rintro e w24 ⟨rfl, hb⟩
        have H24 := Lib.hid (H23.out.on hb)
        clear hb
        go_wp2_with fail
        go_ret
        exact ⟨rfl, H24.out⟩
  · have hz' : (3000 : Int) < (v.size : Int) + a.size + b.size := by omega
    clear hz
    go_enter Tryz.func6, Tryz.ntmps6
    go_wp2_with fail
    refine (HSH.out _ HT.out hw).mono ?_; rintro e w1 ⟨rfl, hb⟩
    have H1 := Lib.hid hb
    clear hb
    go_wp2_with fail
    go_ret
    exact ⟨rfl, H1.out⟩

set_option maxRecDepth 100000 in
theorem between_lifted (os : Os) (started : os.Started) (H : Type) (enc : TypeId × Value → H) :
    ReturnsInHanded {} Tryz.checked os 6 .any (fun w args => (Rows.realBetweenSpec.pre enc Tryz.prog Tryz.f6 Rows.realBetweenRow.domain false w args ∧ laidMetH Tryz.prog laidL w) ∧ sizedMet enc Tryz.prog Tryz.f6 (OpenSpec.ofChange Rows.realBetweenSpec) false w args) (Rows.realBetweenSpec.post enc Tryz.prog Tryz.f6 false true false false) := by
  refine handed_laid (C := Tryz.checked) (X := fun w _ => laidMetH Tryz.prog laidL w) (fun _ _ _ hh h => h.of_heap hh) own started (by kernel_rfl) Tryz.func6
    (ChangeSpec.witness_shaped (enc := enc) (C := Tryz.checked) (os := os) (X := fun w _ => laidMetH Tryz.prog laidL w) false (World.laidAll Tryz.prog os laidL) #[.string { data := #[] }, .string { data := #[] }, .string { data := #[] }] 8 (World.laidAll_os _ _ _) (World.shaped_of_ZipB (by kernel_rfl) (by kernel_rfl)) (by kernel_rfl) (by kernel_rfl) (by kernel_rfl)
      (by rw [MakeChecks.laidMetH_plain _ _ _ (by kernel_rfl)]; exact laidMet_laidAll _ (by kernel_rfl) (by kernel_rfl))) ?_
  intro W base args ds gs before hval0 hW hsz0 hsh hL
  obtain ⟨m, hm⟩ : ∃ m, W.cell? ⟨4, 0, none⟩ = some (.int .i64 m) := Tryz.laysM145.s1_3 W hsh
  have hT := tabs_of_laid ⟨m, hm⟩ hL
  have hw : 1 ≤ W.heap.size := Nat.lt_of_le_of_lt (Nat.zero_le _) (World.block_lt_of_cell? W ⟨4, 0, none⟩ hm)
  have hsz : (DataW.weightsEach Tryz.prog (Tryz.f6.params.toList ++ Rows.realBetweenSpec.plain.varTypes Tryz.prog) (ds ++ gs)).all (· ≤ reachBytes) = true := hsz0
  clear hsz0
  have hval : ∀ (j : Nat) t v, Tryz.f6.params[j]? = some t → args[j]? = some v → Value.okWide Tryz.prog W .any base t v := hval0
  have hW' := hW
  obtain ⟨p, q, hA0, hV, rfl, _, _⟩ := hW
  have hA : DataW.TrodAll enc Tryz.prog W 0 (fun _ => true) true Tryz.f6.params.toList args.toList ds p := hA0
  rw [Tryz.params6] at hA hval hsz
  obtain ⟨v0, v1, v2, d0, d1, d2, p0, p1, p2, rfl, rfl, rfl, h0, h1, h2⟩ := trodAll_three hA
  obtain ⟨rfl, rfl⟩ := trodVars_none hV
  obtain ⟨a, rfl, rfl, rfl, hl_a⟩ := Go.ChangeMaps.open_string Tryz.underlying9 (hval 0 9 v0 rfl rfl) h0
  have hz_a : a.size ≤ 140737488351232 := by have := sized_string hsz (j := 0) (t := 9) rfl rfl; rw [size_list] at this; exact this
  obtain ⟨b, rfl, rfl, rfl, hl_b⟩ := Go.ChangeMaps.open_string Tryz.underlying9 (hval 1 9 v1 rfl rfl) h1
  have hz_b : b.size ≤ 140737488351232 := by have := sized_string hsz (j := 1) (t := 9) rfl rfl; rw [size_list] at this; exact this
  obtain ⟨c, rfl, rfl, rfl, hl_c⟩ := Go.ChangeMaps.open_string Tryz.underlying9 (hval 2 9 v2 rfl rfl) h2
  have hz_c : c.size ≤ 140737488351232 := by have := sized_string hsz (j := 2) (t := 9) rfl rfl; rw [size_list] at this; exact this
  refine (between_walk W a b c hT hw hz_a hz_b hz_c).mono fun e W' ⟨he, hb⟩ => ?_
  subst he
  exact ⟨_, rfl, law_shut laidOut (by kernel_rfl) (by kernel_rfl) Tryz.underlying4 rfl hW' rfl hb⟩

theorem between_holds : Rows.RealBetweenSaid :=
  OpenClaim.holds_of_wide 6 Tryz.f6 rfl rfl rfl rfl rfl rfl rfl ⟨rfl, rfl, rfl, rfl, rfl⟩ rfl rfl rfl rfl rfl (by kernel_rfl) Tryz.func6 (by kernel_rfl)
    (of_decide_eq_true (by kernel_rfl)) (by unfold Func.isWrapper; rw [if_neg (of_decide_eq_false (by kernel_rfl))]; exact ⟨rfl, rfl⟩)
    (fun os started H enc _ => between_lifted os started H enc)

theorem between_card : Rows.RealBetweenCardSaid :=
  Claim7.holds_tied_plain_at .later [] [.data, .data, .widerDeep, .widerDeep, .data, .data, .data, .data, .data, .data, .sentinel, .sentinel, .pinned, .pinned, .pinned] true _ true between_holds (fun _ h => by cases h) (by kernel_rfl) (fun _ h => by cases h) realBetween_row_tie rfl ⟨rfl, rfl⟩ (by kernel_rfl) rfl
    (fun f fn hf hfn => by
      obtain rfl : f = 6 := Option.some.inj ((show Tryz.prog.funcNamed "taxirank/taxiranklaw5.RealBetween" = some 6 by kernel_rfl).symm.trans hf) |>.symm
      obtain rfl : fn = Tryz.f6 := (Option.some.inj (Tryz.func6.symm.trans hfn)).symm
      exact ⟨by kernel_rfl, fun j t ht => by
        rw [Tryz.params6] at ht
        have hm : t ∈ [9, 9, 9] := by simpa using Array.mem_of_getElem? ht
        have hall : ([9, 9, 9].all fun u => !Tryz.prog.wantsStandIn u) = true := by kernel_rfl
        exact (show Tryz.prog.wantsStandIn t = false by simpa using List.all_eq_true.1 hall t hm)⟩)
    (by kernel_rfl)
end Go.Proofs.YtdlhmcogpmdonaaGreatDoor
