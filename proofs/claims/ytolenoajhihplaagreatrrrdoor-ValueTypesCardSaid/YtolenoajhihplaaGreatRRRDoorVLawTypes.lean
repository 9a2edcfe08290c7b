/- What an int takes a real with the same bounds takes, in the same form, but for -0; what any type takes a text takes as it is: ValueTypes answers true, whatever two numbers and value it is called with, and leaves what was there as it was. (Over the listed tables of the library, tied to the program's text.) -/
import Derived.Test.YtolenoajhihplaaGreatRRRDoorVLawM
import Derived.Test.YtolenoajhihplaaGreatRRRDoorRCard
namespace Go.Proofs.YtolenoajhihplaaGreatRRRDoor
open Go.RowKit Go.Lib Go.WideShapes Go.ChangeShapes Go.ChangeAt Go.Joins

theorem tmod_range (m : Int) : -1000 < m.tmod 1000 ∧ m.tmod 1000 < 1000 := by
  have h1 := Int.tmod_lt_of_pos m (show (0 : Int) < 1000 by decide)
  have h2 := Int.lt_tmod_of_pos m (show (0 : Int) < 1000 by decide)
  omega
/-- What a call of value.Canon answers. -/
def CnC (k : Int) (L M s x : ByteArray) (e : Int) : Prop := ∀ W : World, Tabs W → 1 ≤ W.heap.size → Calls Tryz.prog 15 #[tyV k L M, .string s] W fun r w' => r = .returned (.tuple #[.string x, .int .i64 e]) ∧ Below W.heap.size W w'
/-- What may come of the three calls. -/
def Ways (s x y z : ByteArray) (e f g : Int) : Prop :=
  (((e = 0 ∧ f = 0) ∧ (g = 0 ∧ z = s)) ∧ ((∀ W, Tabs W → Calls Tryz.prog 17 #[.string x, .string y] W fun r w' => r = .returned (.tuple #[.int .i64 0, .int .i64 0]) ∧ Below W.heap.size W w') ∧ (x = y ∨ (y = ⟨#[45, 48]⟩ ∧ x ≠ y)))) ∨
  (((e = 9 ∧ f = 0) ∧ (g = 0 ∧ z = s)) ∨ (((e = 9 ∧ f = 9) ∧ (g = 0 ∧ z = s)) ∨ ((e = 9 ∧ f = 9) ∧ g = 9)))
set_option maxRecDepth 100000 in
set_option maxHeartbeats 16000000 in
theorem types_run (w : World) (m n : Int) (s L M x y z : ByteArray) (e f g : Int) (hT : Tabs w) (hw : 1 ≤ w.heap.size) (zs : s.size ≤ 2000)
    (hL : (⟨(itoa (min (m.tmod 1000) (n.tmod 1000))).toArray⟩ : ByteArray) = L) (hM : (⟨(itoa (max (m.tmod 1000) (n.tmod 1000))).toArray⟩ : ByteArray) = M)
    (hI : CnC 105 L M s x e) (hR : CnC 114 L M s y f) (hX : CnC 116 ⟨#[]⟩ ⟨#[]⟩ s z g) (hway : Ways s x y z e f g) :
    Calls Tryz.prog 5 #[.int .i64 m, .int .i64 n, .string s] w fun e w' => e = .returned (.bool true) ∧ Below w.heap.size w w' := by
  have HSH := Lib.hid (fun W hT hw => vshown_any W hT hw)
  have HT := Lib.hid hT
  have HI := Lib.hid hI; have HR := Lib.hid hR; have HX := Lib.hid hX; have HL := Lib.hid hL; have HM := Lib.hid hM; have HW := Lib.hid hway
  clear hT hI hR hX hL hM hway
  have zs' : (s.size : Int) ≤ 2000 := by omega
  go_enter Tryz.func5, Tryz.ntmps5
  go_wp2_with fail
  refine (HSH.out _ HT.out hw).mono ?_; rintro r w1 ⟨rfl, hb⟩
  have H1 := Lib.hid hb
  clear hb
  go_wp2_with fail
  clear HSH
  have HDA := Lib.hid (fun W => dec_any (min (m.tmod 1000) (n.tmod 1000)) W (by have h1 := tmod_range m; have h2 := tmod_range n; omega))
  have HDB := Lib.hid (fun W => dec_any (max (m.tmod 1000) (n.tmod 1000)) W (by have h1 := tmod_range m; have h2 := tmod_range n; omega))
  rw [HL.out] at HDA
  rw [HM.out] at HDB
  clear HL HM
  generalize min (m.tmod 1000) (n.tmod 1000) = a at HDA ⊢
  generalize max (m.tmod 1000) (n.tmod 1000) = b at HDB ⊢
  refine (HDA.out _).mono ?_; rintro r w2 ⟨rfl, rfl⟩
  go_wp2_with fail
  refine (HDB.out _).mono ?_; rintro r w2 ⟨rfl, rfl⟩
  go_wp2_with fail
  refine (HDA.out _).mono ?_; rintro r w2 ⟨rfl, hw2⟩
  rw [← hw2]; clear hw2
  go_wp2_with fail
  refine (HDB.out _).mono ?_; rintro r w2 ⟨rfl, hw2⟩
  rw [← hw2]; clear hw2
  go_wp2_with fail
  obtain ⟨W2, hW2⟩ : ∃ W2, W2 = ((w1.alloc (.cells #[.int .u8 105, .string L, .string M, .slice none 0 0] 25)).alloc (.cells #[.int .u8 114, .string L, .string M, .slice none 0 0] 25)) := ⟨_, rfl⟩
  have HB1 := Lib.hid (show Box4 w1.heap.size 105 L M W2 by rw [hW2]; exact (Box4.new 105 L M w1 _).step ((Below.refl _ _).alloc (Nat.le_refl _) _))
  have HB2 := Lib.hid (show Box4 (w1.heap.size + 1) 114 L M W2 by rw [hW2]; have := Box4.new 114 L M (w1.alloc (.cells #[.int .u8 105, .string L, .string M, .slice none 0 0] 25)) 25; rw [World.size_alloc] at this; exact this)
  have H2 := Lib.hid (show Below w.heap.size w W2 by rw [hW2]; exact (H1.out.alloc H1.out.size _).alloc (by rw [World.size_alloc]; have := H1.out.size; omega) _)
  rw [← hW2]
  clear hW2 HDA HDB
  generalize w1.heap.size = gb at HB1 HB2 ⊢
  refine (HI.out _ (HT.out.step H2.out) (Nat.le_trans hw H2.out.size)).mono ?_; rintro r w3 ⟨rfl, hb⟩
  have HB3 := Lib.hid (HB2.out.step hb)
  have H3 := Lib.hid (H2.out.on hb)
  clear hb
  obtain ⟨d0, d1, d2, d3, hlt⟩ := HB3.out
  go_wp2_with fail
  refine (HR.out _ (HT.out.step H3.out) (Nat.le_trans hw H3.out.size)).mono ?_; rintro r w4 ⟨rfl, hb⟩
  have H4 := Lib.hid (H3.out.on hb)
  clear hb d0 d1 d2 d3 hlt
  go_wp2_with fail
  refine (HX.out _ (HT.out.step H4.out) (Nat.le_trans hw H4.out.size)).mono ?_; rintro r w5 ⟨rfl, hb⟩
  have H5 := Lib.hid (H4.out.on hb)
  clear hb HI HR HX
  unfold Ways at HW
  rcases HW.out with ⟨⟨⟨rfl, rfl⟩, rfl, rfl⟩, hc, hxy⟩ | ⟨⟨rfl, rfl⟩, rfl, rfl⟩ | ⟨⟨rfl, rfl⟩, rfl, rfl⟩ | ⟨⟨rfl, rfl⟩, rfl⟩
  · clear HW
    have HC := Lib.hid hc
    clear hc
    rcases hxy with rfl | ⟨rfl, hne⟩
    · go_wp2_with fail
      refine (HC.out _ (HT.out.step H5.out)).mono ?_; rintro r w6 ⟨rfl, hb⟩
      have H6 := Lib.hid (H5.out.on hb)
      clear hb
      go_wp2_with fail
      go_ret
      exact ⟨rfl, H6.out⟩
    · have hne' : (x.toList == [45, 48]) = false := by
        rw [Lib.toList_data, beq_eq_false_iff_ne]
        intro h
        exact hne (str_eq h)
      clear hne
      go_wp2_with fail
      refine (HC.out _ (HT.out.step H5.out)).mono ?_; rintro r w6 ⟨rfl, hb⟩
      have H6 := Lib.hid (H5.out.on hb)
      clear hb
      go_wp2_with fail
      go_ret
      exact ⟨rfl, H6.out⟩
  all_goals
    clear HW
    go_wp2_with fail
    go_ret
    exact ⟨rfl, H5.out⟩
theorem types_ways (a b : Int) (s : ByteArray) (ha : -1000000 < a ∧ a < 1000000) (hb : -1000000 < b ∧ b < 1000000) :
    Ways s ⟨(cnS true (intF (itoa a) (itoa b) (bytes s)) s.size).toArray⟩ ⟨(cnS true (realF (itoa a) (itoa b) (bytes s)) s.size).toArray⟩ ⟨(cnS true (textF (bytes s)) s.size).toArray⟩ (cnE true (intF (itoa a) (itoa b) (bytes s)) s.size) (cnE true (realF (itoa a) (itoa b) (bytes s)) s.size) (cnE true (textF (bytes s)) s.size) := by
  have ha' : -1000000000 < a ∧ a < 1000000000 := by omega
  have hb' : -1000000000 < b ∧ b < 1000000000 := by omega
  have hsz : (⟨(bytes s).toArray⟩ : ByteArray) = s := str_eq (bytes_mk _)
  by_cases hn : s.size ≤ 60
  · have c0 : ∀ F : Bs, cnS true (some F) s.size = F ∧ cnE true (some F) s.size = 0 := fun F => by
      unfold cnS cnE; rw [if_pos ⟨rfl, hn⟩, if_pos rfl, if_pos ⟨hn, rfl⟩]; exact ⟨rfl, rfl⟩
    have c9 : cnE true none s.size = 9 := by unfold cnE; rw [if_pos rfl, if_neg (by simp)]
    have ct : ∀ n, numB (bytes s) = some n → cnS true (textF (bytes s)) s.size = bytes s ∧ cnE true (textF (bytes s)) s.size = 0 := fun n h => by
      rw [text_of_num h]; exact c0 _
    cases h1 : intF (itoa a) (itoa b) (bytes s) with
    | some F =>
      obtain ⟨k, hk, rfl⟩ := int_takes h1
      obtain ⟨h2, h3, h4, h5⟩ := int_real ha' hb' h1 hk
      have h6 := ct _ (int_num hk)
      have hx : bytes (⟨(itoa k).toArray⟩ : ByteArray) = itoa k := bytes_mk _
      have hy : bytes (⟨(cS (bytes s)).toArray⟩ : ByteArray) = cS (bytes s) := bytes_mk _
      rw [h2, (c0 _).1, (c0 _).2, (c0 _).1, (c0 _).2, h6.1, h6.2, hsz]
      refine .inl ⟨⟨⟨rfl, rfl⟩, rfl, rfl⟩, fun W hT => ?_, ?_⟩
      · have hc := cmp_at ⟨(itoa k).toArray⟩ ⟨(cS (bytes s)).toArray⟩ W hT (by
            rw [size_mk]
            have := num_itoa (intB_range hk)
            have h9 := canon_short (num_okB this)
            rw [← cS_num this, (canon_itoa (intB_range hk)).1] at h9
            omega) (by
            rw [size_mk, cS_num (int_num hk)]
            have := canon_short (num_okB (int_num hk))
            omega)
        rw [hx, hy, h3, h4] at hc
        exact hc
      · rcases h5 with h5 | h5
        · exact .inl (by rw [h5])
        · by_cases he : (⟨(itoa k).toArray⟩ : ByteArray) = ⟨(cS (bytes s)).toArray⟩
          · exact .inl he
          · exact .inr ⟨by rw [h5], he⟩
    | none =>
      rw [c9]
      cases h2 : realF (itoa a) (itoa b) (bytes s) with
      | some F =>
        obtain ⟨n, hnum⟩ := real_takes h2
        have h6 := ct _ hnum
        rw [(c0 _).2, h6.1, h6.2, hsz]
        exact .inr (.inl ⟨⟨rfl, rfl⟩, rfl, rfl⟩)
      | none =>
        rw [c9]
        cases h3 : textF (bytes s) with
        | some F =>
          have hF : F = bytes s := by
            unfold textF at h3
            split at h3
            · cases h3
            · exact (Option.some.inj h3).symm
          rw [(c0 _).1, (c0 _).2, hF, hsz]
          exact .inr (.inr (.inl ⟨⟨rfl, rfl⟩, rfl, rfl⟩))
        | none =>
          rw [c9]
          exact .inr (.inr (.inr ⟨⟨rfl, rfl⟩, rfl⟩))
  · have c9 : ∀ F : Option Bs, cnE true F s.size = 9 := fun F => by unfold cnE; rw [if_pos rfl, if_neg (fun h => hn h.1)]
    rw [c9, c9, c9]
    exact .inr (.inr (.inr ⟨⟨rfl, rfl⟩, rfl⟩))
set_option maxRecDepth 100000 in
set_option maxHeartbeats 8000000 in
theorem types_walk (w : World) (m n : Int) (s : ByteArray) (hT : Tabs w) (hw : 1 ≤ w.heap.size) :
    Calls Tryz.prog 5 #[.int .i64 m, .int .i64 n, .string s] w fun e w' => e = .returned (.bool true) ∧ Below w.heap.size w w' := by
  by_cases zs : s.size ≤ 2000
  · have h1 := tmod_range m; have h2 := tmod_range n
    have ha : -1000000 < min (m.tmod 1000) (n.tmod 1000) ∧ min (m.tmod 1000) (n.tmod 1000) < 1000000 := by omega
    have hb : -1000000 < max (m.tmod 1000) (n.tmod 1000) ∧ max (m.tmod 1000) (n.tmod 1000) < 1000000 := by omega
    have hab : min (m.tmod 1000) (n.tmod 1000) ≤ max (m.tmod 1000) (n.tmod 1000) := by omega
    have key := fun x y z e f g => types_run w m n s ⟨(itoa (min (m.tmod 1000) (n.tmod 1000))).toArray⟩ ⟨(itoa (max (m.tmod 1000) (n.tmod 1000))).toArray⟩ x y z e f g hT hw zs rfl rfl
    generalize min (m.tmod 1000) (n.tmod 1000) = a at ha hab key
    generalize max (m.tmod 1000) (n.tmod 1000) = b at hb hab key
    have ha' : -1000000000 < a ∧ a < 1000000000 := by omega
    have hb' : -1000000000 < b ∧ b < 1000000000 := by omega
    have small : ∀ k : Int, (-1000000 < k ∧ k < 1000000) → (⟨(itoa k).toArray⟩ : ByteArray).size ≤ 1000000 := fun k hk => by
      rw [size_mk]
      have hkk := num_itoa (n := k) (by omega)
      have h9 := canon_short (num_okB hkk)
      rw [← cS_num hkk, (canon_itoa (by omega)).1] at h9
      omega
    refine key _ _ _ _ _ _ (fun W hT hw => ?_) (fun W hT hw => ?_) (fun W hT hw => ?_) (types_ways a b s ha hb)
    · have := vcanon_int ⟨(itoa a).toArray⟩ ⟨(itoa b).toArray⟩ a b s W hT hw (small a ha) (small b hb) ha' hb' (bytes_mk _) (bytes_mk _) hab (by omega)
      rw [bytes_mk, bytes_mk] at this
      exact this
    · have := vcanon_real ⟨(itoa a).toArray⟩ ⟨(itoa b).toArray⟩ s W hT hw (small a ha) (small b hb) (by omega)
      rw [bytes_mk, bytes_mk, real_right ha' hb' hab] at this
      exact this
    · exact vcanon_text s W hT hw (by omega)
  · have HSH := Lib.hid (fun W hT hw => vshown_any W hT hw)
    have HT := Lib.hid hT
    clear hT
    have zs' : 2000 < (s.size : Int) := by omega
    clear zs
    go_enter Tryz.func5, Tryz.ntmps5
    go_wp2_with fail
    refine (HSH.out _ HT.out hw).mono ?_; rintro r w1 ⟨rfl, hb⟩
    have H1 := Lib.hid hb
    clear hb
    go_wp2_with fail
    go_ret
    exact ⟨rfl, H1.out⟩

set_option maxRecDepth 100000 in
theorem types_lifted (os : Os) (started : os.Started) (H : Type) (enc : TypeId × Value → H) :
    ReturnsInHanded {} Tryz.checked os 5 .any (fun w args => (Rows.valueTypesSpec.pre enc Tryz.prog Tryz.f5 Rows.valueTypesRow.domain false w args ∧ laidMetH Tryz.prog laidL w) ∧ sizedMet enc Tryz.prog Tryz.f5 (OpenSpec.ofChange Rows.valueTypesSpec) false w args) (Rows.valueTypesSpec.post enc Tryz.prog Tryz.f5 false true false false) := by
  refine handed_laid (C := Tryz.checked) (X := fun w _ => laidMetH Tryz.prog laidL w) (fun _ _ _ hh h => h.of_heap hh) own started (by kernel_rfl) Tryz.func5
    (ChangeSpec.witness_shaped (enc := enc) (C := Tryz.checked) (os := os) (X := fun w _ => laidMetH Tryz.prog laidL w) false (World.laidAll Tryz.prog os laidL) #[.int .i64 0, .int .i64 0, .string { data := #[] }] 8 (World.laidAll_os _ _ _) (World.shaped_of_ZipB (by kernel_rfl) (by kernel_rfl)) (by kernel_rfl) (by kernel_rfl) (by kernel_rfl)
      (by rw [MakeChecks.laidMetH_plain _ _ _ (by kernel_rfl)]; exact laidMet_laidAll _ (by kernel_rfl) (by kernel_rfl))) ?_
  intro W base args ds gs before hval0 hW hsz0 hsh hL
  obtain ⟨m0, hm0⟩ : ∃ m, W.cell? ⟨1, 0, none⟩ = some (.int .i64 m) := Tryz.laysM145.s1_3 W hsh
  have hT := tabs_of_laid ⟨m0, hm0⟩ hL
  have hw : 1 ≤ W.heap.size := Nat.lt_of_le_of_lt (Nat.zero_le _) (World.block_lt_of_cell? W ⟨1, 0, none⟩ hm0)
  have hsz : (DataW.weightsEach Tryz.prog (Tryz.f5.params.toList ++ Rows.valueTypesSpec.plain.varTypes Tryz.prog) (ds ++ gs)).all (· ≤ reachBytes) = true := hsz0
  clear hsz0
  have hval : ∀ (j : Nat) t v, Tryz.f5.params[j]? = some t → args[j]? = some v → Value.okWide Tryz.prog W .any base t v := hval0
  have hW' := hW
  obtain ⟨p, q, hA0, hV, rfl, _, _⟩ := hW
  have hA : DataW.TrodAll enc Tryz.prog W 0 (fun _ => true) true Tryz.f5.params.toList args.toList ds p := hA0
  rw [Tryz.params5] at hA hval hsz
  obtain ⟨v0, v1, v2, d0, d1, d2, p0, p1, p2, rfl, rfl, rfl, h0, h1, h2⟩ := trodAll_three hA
  obtain ⟨rfl, rfl⟩ := trodVars_none hV
  obtain ⟨m, rfl, rfl, rfl, wf_m⟩ := open_int Tryz.underlying3 (hval 0 3 v0 rfl rfl) h0
  have h_m := int_range wf_m
  obtain ⟨n, rfl, rfl, rfl, wf_n⟩ := open_int Tryz.underlying3 (hval 1 3 v1 rfl rfl) h1
  have h_n := int_range wf_n
  obtain ⟨s, rfl, rfl, rfl, hl_s⟩ := Go.ChangeMaps.open_string Tryz.underlying9 (hval 2 9 v2 rfl rfl) h2
  have hz_s : s.size ≤ 140737488351232 := by have := sized_string hsz (j := 2) (t := 9) rfl rfl; rw [size_list] at this; exact this
  refine (types_walk W m n s hT hw).mono fun e W' ⟨he, hb⟩ => ?_
  subst he
  exact ⟨_, rfl, law_shut laidOut (by kernel_rfl) (by kernel_rfl) Tryz.underlying4 rfl hW' rfl hb⟩

theorem types_holds : Rows.ValueTypesSaid :=
  OpenClaim.holds_of_wide 5 Tryz.f5 rfl rfl rfl rfl rfl rfl rfl ⟨rfl, rfl, rfl, rfl, rfl⟩ rfl rfl rfl rfl rfl (by kernel_rfl) Tryz.func5 (by kernel_rfl)
    (of_decide_eq_true (by kernel_rfl)) (by unfold Func.isWrapper; rw [if_neg (of_decide_eq_false (by kernel_rfl))]; exact ⟨rfl, rfl⟩)
    (fun os started H enc _ => types_lifted os started H enc)

theorem types_card : Rows.ValueTypesCardSaid :=
  Claim7.holds_tied_plain_at .later [] [.data, .data, .widerDeep, .widerDeep, .data, .data, .data, .data, .data, .data, .sentinel, .sentinel, .pinned, .pinned, .pinned] true _ true types_holds (fun _ h => by cases h) (by kernel_rfl) (fun _ h => by cases h) valueTypes_row_tie rfl ⟨rfl, rfl⟩ (by kernel_rfl) rfl
    (fun f fn hf hfn => by
      obtain rfl : f = 5 := Option.some.inj ((show Tryz.prog.funcNamed "taxirank/taxiranklaw6.ValueTypes" = some 5 by kernel_rfl).symm.trans hf) |>.symm
      obtain rfl : fn = Tryz.f5 := (Option.some.inj (Tryz.func5.symm.trans hfn)).symm
      exact ⟨by kernel_rfl, fun j t ht => by
        rw [Tryz.params5] at ht
        have hm : t ∈ [3, 3, 9] := by simpa using Array.mem_of_getElem? ht
        have hall : ([3, 3, 9].all fun u => !Tryz.prog.wantsStandIn u) = true := by kernel_rfl
        exact (show Tryz.prog.wantsStandIn t = false by simpa using List.all_eq_true.1 hall t hm)⟩)
    (by kernel_rfl)
end Go.Proofs.YtolenoajhihplaaGreatRRRDoor
