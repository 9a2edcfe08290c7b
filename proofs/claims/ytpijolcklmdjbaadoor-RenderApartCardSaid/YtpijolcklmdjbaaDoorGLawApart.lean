/- Two commands that are set otherwise are rendered otherwise: RenderApart answers true, whatever two commands it is called with, and leaves what was there as it was. (Over the listed variables, tied to the program's text.) -/
import Derived.Test.YtpijolcklmdjbaaDoorGCard
namespace Go.Proofs.YtpijolcklmdjbaaDoor
open Go.RowKit Go.Lib Go.WideShapes Go.ChangeShapes Go.ChangeAt Go.Joins

theorem bool_same (a b : Bool) : (a == b) = true ↔ a = b := by cases a <;> cases b <;> simp
theorem g_text_eq (x y : ByteArray) : (x.toList == y.toList) = (bytes x == bytes y) := by
  rw [Lib.toList_data, Lib.toList_data]
theorem g_text_of (l : Bs) : bytes (⟨l.toArray⟩ : ByteArray) = l := by simp [bytes]
theorem u8_same (a b : UInt8) : ((a.toNat : Int) == (b.toNat : Nat)) = (a == b) := by
  by_cases h : a = b
  · subst h; simp
  · rw [beq_false_of_ne h, beq_eq_false_iff_ne]
    intro e
    exact h (UInt8.toNat_inj.1 (Int.ofNat.inj e))
theorem o_sn : strO none = { data := #[] } := rfl
theorem o_en : errO none = 1 := rfl
theorem o_ss (s : Bs) : strO (some s) = ⟨s.toArray⟩ := rfl
theorem o_es (s : Bs) : errO (some s) = 0 := rfl
theorem g_one (r : Option Bs) : r = none ∨ ∃ s, r = some s := by cases r with
  | none => exact .inl rfl
  | some s => exact .inr ⟨s, rfl⟩
set_option maxRecDepth 100000 in
set_option maxHeartbeats 16000000 in
theorem apart_walk (c1 c2 : UInt8) (n1 v1 n2 v2 : ByteArray) (m : Int) (w : World) (zn1 : n1.size ≤ 140737488351232) (zv1 : v1.size ≤ 140737488351232) (zn2 : n2.size ≤ 140737488351232) (zv2 : v2.size ≤ 140737488351232) (hm : w.cell? ⟨1, 0, none⟩ = some (.int .i64 m)) (hT : TakenAt w) :
    Calls Tryd.prog 3 #[.agg #[.int .u8 (c1.toNat : Nat), .string n1, .string v1], .agg #[.int .u8 (c2.toNat : Nat), .string n2, .string v2]] w fun e w' => e = .returned (.bool true) ∧ Below w.heap.size w w' := by
  obtain ⟨i1, hi1⟩ : ∃ i : Int, i = (c1.toNat : Nat) := ⟨_, rfl⟩
  obtain ⟨i2, hi2⟩ : ∃ i : Int, i = (c2.toNat : Nat) := ⟨_, rfl⟩
  rw [← hi1, ← hi2]
  have HC1 := Lib.hid hi1.symm; have HC2 := Lib.hid hi2.symm
  obtain ⟨W0, hW0⟩ : ∃ x, x = ((w.alloc (.cells #[.int .u8 i1, .string n1, .string v1] 23)).alloc (.cells #[.int .u8 i2, .string n2, .string v2] 23)) := ⟨_, rfl⟩
  have hsz : W0.heap.size = w.heap.size + 1 + 1 := by rw [hW0]; simp
  have HB := Lib.hid (show Below w.heap.size w W0 by rw [hW0]; exact ((Below.refl _ _).alloc (Nat.le_refl _) _).alloc (by simp) _)
  have HK := Lib.hid (show ∀ W, Below W0.heap.size W0 W → W.cell? ⟨w.heap.size, 0, none⟩ = some (.int .u8 i1) ∧ W.cell? ⟨w.heap.size, 1, none⟩ = some (.string n1) ∧ W.cell? ⟨w.heap.size, 2, none⟩ = some (.string v1) ∧ W.cell? ⟨w.heap.size + 1, 0, none⟩ = some (.int .u8 i2) ∧ W.cell? ⟨w.heap.size + 1, 1, none⟩ = some (.string n2) ∧ W.cell? ⟨w.heap.size + 1, 2, none⟩ = some (.string v2) from by
    intro W hW
    have k : ∀ q i, q < W0.heap.size → W.cell? ⟨q, i, none⟩ = W0.cell? ⟨q, i, none⟩ := fun q i h => hW.cell (p := ⟨q, i, none⟩) h
    refine ⟨(k _ _ (by omega)).trans ?_, (k _ _ (by omega)).trans ?_, (k _ _ (by omega)).trans ?_, (k _ _ (by omega)).trans ?_, (k _ _ (by omega)).trans ?_, (k _ _ (by omega)).trans ?_⟩ <;> (rw [hW0]; simp [go_sem]))
  have HE := Lib.hid hW0
  have HW0 := Lib.hid (World.block_lt_of_cell? w ⟨1, 0, none⟩ hm)
  have HM := Lib.hid hm
  have HMW := Lib.hid (fun W (h : Below w.heap.size w W) => (h.cell (p := ⟨1, 0, none⟩) HW0.out).trans HM.out)
  have HT := Lib.hid hT
  have HSH := Lib.hid (fun W hm hT => shown13 m W hm hT)
  clear hW0 hsz hi1 hi2 hm hT
  go_enter Tryd.func3, Tryd.ntmps3
  go_wp2_with fail
  rw [← HE.out]
  refine (HSH.out W0 (HMW.out _ HB.out) (HT.out.step HB.out)).mono ?_; rintro e w1 ⟨rfl, hb⟩
  have B1 := Lib.hid hb
  have P1 := Lib.hid (HB.out.step hb HB.out.size)
  clear hb
  obtain ⟨k0, k1, k2, l0, l1, l2⟩ := HK.out _ B1.out
  go_wp2_with fail
  refine (g_short_any _ n1 v1 w1 zn1 zv1).mono ?_; rintro e w2 ⟨rfl, hb⟩
  have B2 := Lib.hid (B1.out.step hb B1.out.size)
  have P2 := Lib.hid (P1.out.step hb P1.out.size)
  clear hb k0 k1 k2 l0 l1 l2
  obtain ⟨k0, k1, k2, l0, l1, l2⟩ := HK.out _ B2.out
  by_cases hs1 : ¬ ((n1.size : Int) + v1.size < 2000)
  · rw [decide_eq_false hs1]
    go_wp2_with fail
    go_ret
    exact ⟨rfl, P2.out⟩
  have hs1 := Decidable.not_not.1 hs1
  rw [decide_eq_true hs1]
  go_wp2_with fail
  refine (g_short_any _ n2 v2 w2 zn2 zv2).mono ?_; rintro e w3 ⟨rfl, hb⟩
  have B3 := Lib.hid (B2.out.step hb B2.out.size)
  have P3 := Lib.hid (P2.out.step hb P2.out.size)
  clear hb k0 k1 k2 l0 l1 l2
  obtain ⟨k0, k1, k2, l0, l1, l2⟩ := HK.out _ B3.out
  by_cases hs2 : ¬ ((n2.size : Int) + v2.size < 2000)
  · rw [decide_eq_false hs2]
    go_wp2_with fail
    go_ret
    exact ⟨rfl, P3.out⟩
  have hs2 := Decidable.not_not.1 hs2
  rw [decide_eq_true hs2]
  have HS1 := Lib.hid (fun W hm hT => stat_any c1 n1 v1 m W (by omega) (by omega) hm hT)
  have HS2 := Lib.hid (fun W hm hT => stat_any c2 n2 v2 m W (by omega) (by omega) hm hT)
  clear hs1 hs2 zn1 zv1 zn2 zv2
  rw [HC1.out] at HS1
  rw [HC2.out] at HS2
  obtain ⟨R1, hR1⟩ : ∃ R, R = statT c1 (bytes n1) (bytes v1) := ⟨_, rfl⟩
  obtain ⟨R2, hR2⟩ : ∃ R, R = statT c2 (bytes n2) (bytes v2) := ⟨_, rfl⟩
  rw [← hR1] at HS1
  rw [← hR2] at HS2
  have HR1 := Lib.hid hR1; have HR2 := Lib.hid hR2
  clear hR1 hR2
  unfold ansO at HS1 HS2
  go_wp2_with fail
  refine (HS1.out w3 (HMW.out _ P3.out) (HT.out.step P3.out)).mono ?_; rintro e w4 ⟨rfl, hb⟩
  have B4 := Lib.hid (B3.out.step hb B3.out.size)
  have P4 := Lib.hid (P3.out.step hb P3.out.size)
  clear hb k0 k1 k2 l0 l1 l2
  obtain ⟨k0, k1, k2, l0, l1, l2⟩ := HK.out _ B4.out
  go_wp2_with fail
  refine (HS2.out w4 (HMW.out _ P4.out) (HT.out.step P4.out)).mono ?_; rintro e w5 ⟨rfl, hb⟩
  have B5 := Lib.hid (B4.out.step hb B4.out.size)
  have P5 := Lib.hid (P4.out.step hb P4.out.size)
  clear hb k0 k1 k2 l0 l1 l2
  obtain ⟨k0, k1, k2, l0, l1, l2⟩ := HK.out _ B5.out
  rcases g_one R1 with rfl | ⟨s1, rfl⟩
  · rcases g_one R2 with rfl | ⟨s2, rfl⟩
    · simp only [o_sn, o_en]
      go_wp2_with fail
      go_ret
      exact ⟨rfl, P5.out⟩
    · simp only [o_sn, o_en, o_ss, o_es]
      go_wp2_with fail
      go_ret
      exact ⟨rfl, P5.out⟩
  · rcases g_one R2 with rfl | ⟨s2, rfl⟩
    · simp only [o_sn, o_en, o_ss, o_es]
      go_wp2_with fail
      go_ret
      exact ⟨rfl, P5.out⟩
    · have hA := stat_apart HR1.out.symm HR2.out.symm
      simp only [o_ss, o_es]
      obtain ⟨S1, hS1⟩ : ∃ S : ByteArray, S = ⟨s1.toArray⟩ := ⟨_, rfl⟩
      obtain ⟨S2, hS2⟩ : ∃ S : ByteArray, S = ⟨s2.toArray⟩ := ⟨_, rfl⟩
      rw [← hS1, ← hS2]
      have hST : (S1.toList == S2.toList) = alikeB c1 (bytes n1) (bytes v1) c2 (bytes n2) (bytes v2) := by
        rw [g_text_eq, hS1, hS2, g_text_of, g_text_of]; exact hA
      unfold alikeB at hST
      rw [← u8_same, HC1.out, HC2.out, ← g_text_eq, ← g_text_eq] at hST
      clear hA hS1 hS2 HR1 HR2
      have e115 : ((c1 == 115) : Bool) = (i1 == 115) := by rw [← HC1.out]; exact (u8_same c1 115).symm
      have e108 : ((c1 == 108) : Bool) = (i1 == 108) := by rw [← HC1.out]; exact (u8_same c1 108).symm
      have e114 : ((c1 == 114) : Bool) = (i1 == 114) := by rw [← HC1.out]; exact (u8_same c1 114).symm
      rw [e115, e108, e114] at hST
      clear e115 e108 e114
      cases hk : (i1 == i2) <;> cases hn : (n1.toList == n2.toList) <;> cases hv : (v1.toList == v2.toList) <;> rw [hk, hn, hv] at hST
      all_goals
        by_cases h115 : i1 = 115
        · subst h115
          first | (have hSX : (S1.toList == S2.toList) = true := hST) | (have hSX : (S1.toList == S2.toList) = false := hST)
          clear hST
          go_wp2_with fail
          go_ret
          exact ⟨rfl, P5.out⟩
        · have g115 : (i1 == 115) = false := by simpa using h115
          rw [g115] at hST
          by_cases h108 : i1 = 108
          · subst h108
            first | (have hSX : (S1.toList == S2.toList) = true := hST) | (have hSX : (S1.toList == S2.toList) = false := hST)
            clear hST
            go_wp2_with fail
            go_ret
            exact ⟨rfl, P5.out⟩
          · have g108 : (i1 == 108) = false := by simpa using h108
            rw [g108] at hST
            by_cases h114 : i1 = 114
            · subst h114
              first | (have hSX : (S1.toList == S2.toList) = true := hST) | (have hSX : (S1.toList == S2.toList) = false := hST)
              clear hST
              go_wp2_with fail
              go_ret
              exact ⟨rfl, P5.out⟩
            · have g114 : (i1 == 114) = false := by simpa using h114
              rw [g114] at hST
              clear h115 h108 h114
              first | (have hSX : (S1.toList == S2.toList) = true := hST) | (have hSX : (S1.toList == S2.toList) = false := hST)
              clear hST
              go_wp2_with fail
              go_ret
              exact ⟨rfl, P5.out⟩
set_option maxRecDepth 100000 in
theorem apart_lifted (os : Os) (started : os.Started) (H : Type) (enc : TypeId × Value → H) :
    ReturnsInHanded {} Tryd.checked os 3 .any (fun w args => (Rows.renderApartSpec.pre enc Tryd.prog Tryd.f3 Rows.renderApartRow.domain false w args ∧ laidMetH Tryd.prog [("unicode/utf8.acceptRanges", Rows.laid_unicode_utf8_acceptRanges), ("taxirank/names.taken", Rows.laid_taxirank_names_taken), ("unicode/utf8.first", Rows.laid_unicode_utf8_first)] w) ∧ sizedMet enc Tryd.prog Tryd.f3 (OpenSpec.ofChange Rows.renderApartSpec) false w args) (Rows.renderApartSpec.post enc Tryd.prog Tryd.f3 false true false false) := by
  refine handed_laid (C := Tryd.checked) (X := fun w _ => laidMetH Tryd.prog [("unicode/utf8.acceptRanges", Rows.laid_unicode_utf8_acceptRanges), ("taxirank/names.taken", Rows.laid_taxirank_names_taken), ("unicode/utf8.first", Rows.laid_unicode_utf8_first)] w) (fun _ _ _ hh h => h.of_heap hh) own started (by kernel_rfl) Tryd.func3
    (ChangeSpec.witness_shaped (enc := enc) (C := Tryd.checked) (os := os) (X := fun w _ => laidMetH Tryd.prog [("unicode/utf8.acceptRanges", Rows.laid_unicode_utf8_acceptRanges), ("taxirank/names.taken", Rows.laid_taxirank_names_taken), ("unicode/utf8.first", Rows.laid_unicode_utf8_first)] w) false (World.laidAll Tryd.prog os [("unicode/utf8.acceptRanges", Rows.laid_unicode_utf8_acceptRanges), ("taxirank/names.taken", Rows.laid_taxirank_names_taken), ("unicode/utf8.first", Rows.laid_unicode_utf8_first)]) #[.agg #[.int .u8 0, .string { data := #[] }, .string { data := #[] }], .agg #[.int .u8 0, .string { data := #[] }, .string { data := #[] }]] 8 (World.laidAll_os _ _ _) (World.shaped_of_ZipB (by kernel_rfl) (by kernel_rfl)) (by kernel_rfl) (by kernel_rfl) (by kernel_rfl)
      (by rw [MakeChecks.laidMetH_plain _ _ _ (by kernel_rfl)]; exact laidMet_laidAll _ (by kernel_rfl) (by kernel_rfl))) ?_
  intro W base args ds gs before hval0 hW hsz0 hsh hL
  obtain ⟨m, hm⟩ : ∃ m, W.cell? ⟨1, 0, none⟩ = some (.int .i64 m) := Tryd.laysM143.s1_3 W hsh
  have hT := taken_of_laid hL
  have hsz : (DataW.weightsEach Tryd.prog (Tryd.f3.params.toList ++ Rows.renderApartSpec.plain.varTypes Tryd.prog) (ds ++ gs)).all (· ≤ reachBytes) = true := hsz0
  clear hsz0
  have hval : ∀ (j : Nat) t v, Tryd.f3.params[j]? = some t → args[j]? = some v → Value.okWide Tryd.prog W .any base t v := hval0
  have hW' := hW
  obtain ⟨p, q, hA0, hV, rfl, _, _⟩ := hW
  have hA : DataW.TrodAll enc Tryd.prog W 0 (fun _ => true) true Tryd.f3.params.toList args.toList ds p := hA0
  rw [Tryd.params3] at hA hval hsz
  obtain ⟨v0, v1, d0, d1, p0, p1, rfl, rfl, rfl, h0, h1⟩ := trodAll_two hA
  obtain ⟨rfl, rfl⟩ := trodVars_none hV
  obtain ⟨ca, na, va, rfl, hwna, hwva⟩ := open_cmd (hval 0 23 v0 rfl rfl) h0
  have hzna : na.size ≤ 140737488351232 := by have := of_decide_eq_true (List.all_eq_true.1 hsz _ (DataW.weights_mem_each (j := 0) (t := 23) rfl rfl _ hwna)); rw [size_listG] at this; exact this
  have hzva : va.size ≤ 140737488351232 := by have := of_decide_eq_true (List.all_eq_true.1 hsz _ (DataW.weights_mem_each (j := 0) (t := 23) rfl rfl _ hwva)); rw [size_listG] at this; exact this
  obtain ⟨cb, nb, vb, rfl, hwnb, hwvb⟩ := open_cmd (hval 1 23 v1 rfl rfl) h1
  have hznb : nb.size ≤ 140737488351232 := by have := of_decide_eq_true (List.all_eq_true.1 hsz _ (DataW.weights_mem_each (j := 1) (t := 23) rfl rfl _ hwnb)); rw [size_listG] at this; exact this
  have hzvb : vb.size ≤ 140737488351232 := by have := of_decide_eq_true (List.all_eq_true.1 hsz _ (DataW.weights_mem_each (j := 1) (t := 23) rfl rfl _ hwvb)); rw [size_listG] at this; exact this
  refine (apart_walk ca cb na va nb vb m W hzna hzva hznb hzvb hm hT).mono fun e W' ⟨he, hb⟩ => ?_
  subst he
  exact ⟨_, rfl, law_shut laidOut (by kernel_rfl) (by kernel_rfl) Tryd.underlying4 rfl hW' rfl hb⟩

theorem apart_holds : Rows.RenderApartSaid :=
  OpenClaim.holds_of_wide 3 Tryd.f3 rfl rfl rfl rfl rfl rfl rfl ⟨rfl, rfl, rfl, rfl, rfl⟩ rfl rfl rfl rfl rfl (by kernel_rfl) Tryd.func3 (by kernel_rfl)
    (of_decide_eq_true (by kernel_rfl)) (by unfold Func.isWrapper; rw [if_neg (of_decide_eq_false (by kernel_rfl))]; exact ⟨rfl, rfl⟩)
    (fun os started H enc _ => apart_lifted os started H enc)

theorem apart_card : Rows.RenderApartCardSaid :=
  Claim7.holds_tied_plain_at .later [] [.data, .data, .pinned] true _ false apart_holds (fun _ h => by cases h) (by kernel_rfl) (fun _ h => by cases h) renderApart_row_tie rfl ⟨rfl, rfl⟩ (by kernel_rfl) rfl
    (fun f fn hf hfn => by
      obtain rfl : f = 3 := Option.some.inj ((show Tryd.prog.funcNamed "taxirank/taxiranklaw13.RenderApart" = some 3 by kernel_rfl).symm.trans hf) |>.symm
      obtain rfl : fn = Tryd.f3 := (Option.some.inj (Tryd.func3.symm.trans hfn)).symm
      exact ⟨by kernel_rfl, fun j t ht => by
        rw [Tryd.params3] at ht
        have hm : t ∈ [23, 23] := by simpa using Array.mem_of_getElem? ht
        have hall : ([23, 23].all fun u => !Tryd.prog.wantsStandIn u) = true := by kernel_rfl
        exact (show Tryd.prog.wantsStandIn t = false by simpa using List.all_eq_true.1 hall t hm)⟩)
    (by kernel_rfl)
end Go.Proofs.YtpijolcklmdjbaaDoor
