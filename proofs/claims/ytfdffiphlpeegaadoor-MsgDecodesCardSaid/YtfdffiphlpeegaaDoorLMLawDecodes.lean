/- Any direction, any frame: MsgDecodes answers true, and leaves what was there as it was. (Over the listed variables, tied to the program's text.) -/
import Derived.Test.YtfdffiphlpeegaaDoorZ27
import Derived.Test.YtfdffiphlpeegaaDoorZ28
import Derived.Test.YtfdffiphlpeegaaDoorZ22
namespace Go.Proofs.YtfdffiphlpeegaaDoor
open Go.RowKit Go.Lib Go.WideShapes Go.ChangeShapes Go.ChangeAt Go.Joins

def mKind (c : UInt8) (R : Option (List Bs × List Int)) : UInt8 := if R.isSome then c else 0
def mTexts (R : Option (List Bs × List Int)) : List Bs := (R.getD ([], [])).1
def mNums (R : Option (List Bs × List Int)) : List Int := (R.getD ([], [])).2
def mErr (R : Option (List Bs × List Int)) : Int := if R.isSome then 0 else 2
theorem nil_textsIn (w : World) : TextsIn w (.slice none 0 0) [] := ⟨none, 0, 0, rfl, rfl, Nat.le_refl _, by omega, .inl rfl⟩
theorem nil_numsIn (w : World) : NumsIn w (.slice none 0 0) [] := ⟨none, 0, 0, rfl, rfl, Nat.le_refl _, by omega, .inl rfl⟩
/-- What a reading leaves, in one form. -/
theorem msgout_any {w w' : World} {c : UInt8} {R : Option (List Bs × List Int)} {e : Ending} (h : MsgOut w c 2 R e w') : ∃ ta tn tc na nn nc, e = .returned (.tuple #[.agg #[.int .u8 ((mKind c R).toNat : Nat), .slice ta tn tc, .slice na nn nc], .int .i64 (mErr R)]) ∧ TextsIn w' (.slice ta tn tc) (mTexts R) ∧ NumsIn w' (.slice na nn nc) (mNums R) ∧ Below w.heap.size w w' := by
  cases R with
  | none =>
    obtain ⟨h1, h2⟩ := h
    exact ⟨none, 0, 0, none, 0, 0, h1, nil_textsIn _, nil_numsIn _, h2⟩
  | some p =>
    obtain ⟨tv, nv, h1, hT, hN, hb⟩ := h
    obtain ⟨ta, tc, rfl⟩ := ownsRow_form hT
    obtain ⟨na, nc, rfl⟩ := ownsRow_form hN
    exact ⟨ta, _, tc, na, _, nc, h1, own_textsIn hT, own_numsIn hN, hb⟩
theorem same_self (c : UInt8) (T : List Bs) (N : List Int) : sameB c T N c T N = true := decide_eq_true ⟨rfl, rfl, rfl⟩
set_option maxRecDepth 100000 in
set_option maxHeartbeats 16000000 in
theorem decodes_walk (w : World) (back : Bool) (c : UInt8) (sb : ByteArray) :
    Calls Tryd.prog 3 #[.bool back, .agg #[.int .u8 (c.toNat : Nat), .string sb]] w fun e w' => e = .returned (.bool true) ∧ Below w.heap.size w w' := by
  obtain ⟨ci, hci⟩ : ∃ ci : Int, ci = (c.toNat : Nat) := ⟨_, rfl⟩
  obtain ⟨W0, hW0⟩ : ∃ x, x = (w.alloc (.cells #[.int .u8 ci, .string sb] 23)) := ⟨_, rfl⟩
  have hsz : W0.heap.size = w.heap.size + 1 := by rw [hW0]; simp
  have HB := Lib.hid (show Below w.heap.size w W0 by rw [hW0]; exact (Below.refl _ _).alloc (Nat.le_refl _) _)
  have HC := Lib.hid (show ∀ W, Below W0.heap.size W0 W → W.cell? ⟨w.heap.size, 0, none⟩ = some (.int .u8 ci) ∧ W.cell? ⟨w.heap.size, 1, none⟩ = some (.string sb) from by
    intro W hW
    have k : ∀ q i, q < W0.heap.size → W.cell? ⟨q, i, none⟩ = W0.cell? ⟨q, i, none⟩ := fun q i h => hW.cell (p := ⟨q, i, none⟩) h
    refine ⟨(k _ _ (by omega)).trans ?_, (k _ _ (by omega)).trans ?_⟩ <;> (rw [hW0]; simp [go_sem]))
  have HE := Lib.hid hW0
  have HCI := Lib.hid hci
  obtain ⟨S2, hS2⟩ : ∃ S2 : Bs, S2 = bytes sb := ⟨_, rfl⟩
  have HSB := Lib.hid (show (⟨S2.toArray⟩ : ByteArray) = sb by rw [hS2])
  have HZS := Lib.hid (show S2.length = sb.size by rw [hS2, blen])
  obtain ⟨R, hR⟩ : ∃ R, R = readL back c S2 := ⟨_, rfl⟩
  have HR := Lib.hid hR
  rw [← hci]
  clear hW0 hsz hci hS2 hR
  go_enter Tryd.func3, Tryd.ntmps3
  go_wp2_with fail
  rw [← HE.out]
  refine (shown_any _).mono ?_; rintro e w1 ⟨rfl, hb⟩
  have B1 := Lib.hid hb
  have P1 := Lib.hid (HB.out.step hb HB.out.size)
  obtain ⟨k0, k1⟩ := HC.out w1 B1.out
  clear hb
  by_cases hbig : 3000 < sb.size
  · have hbig' : (3000 : Int) < sb.size := by omega
    go_wp2_with fail
    go_ret
    exact ⟨rfl, P1.out⟩
  have hbig' : ¬ (3000 : Int) < sb.size := by omega
  have HDE := Lib.hid (fun W => decode_any W back c S2 (by have := HZS.out; omega))
  have HRE := Lib.hid (fun W => rdecode_any W back c S2 (by have := HZS.out; omega))
  rw [HSB.out, ← HCI.out] at HDE HRE
  have hRD : readD back c S2 = R := by
    rw [HR.out]; exact if_neg (by have := HZS.out; omega)
  rw [hRD] at HDE
  rw [← HR.out] at HRE
  obtain ⟨K1, hK1⟩ : ∃ z : Int, z = ((mKind c R).toNat : Nat) := ⟨_, rfl⟩
  obtain ⟨ER, hER⟩ : ∃ z : Int, z = mErr R := ⟨_, rfl⟩
  have HK1 := Lib.hid hK1; have HER := Lib.hid hER
  clear hRD hbig hK1 hER
  go_wp2_with fail
  refine (HDE.out w1).mono ?_
  intro e w2 hm
  obtain ⟨ta, tn, tc, na, nn, nc, rfl, hT, hN, hb⟩ := msgout_any hm
  have B2 := Lib.hid (B1.out.step hb B1.out.size)
  have P2 := Lib.hid (P1.out.step hb P1.out.size)
  have HT2 := Lib.hid hT; have HN2 := Lib.hid hN
  rw [← HK1.out, ← HER.out]
  clear hm hT hN hb k0 k1
  obtain ⟨w3, hw3⟩ : ∃ x, x = w2.alloc (.cells #[.int .u8 K1, .slice ta tn tc, .slice na nn nc] 28) := ⟨_, rfl⟩
  have D3 := Lib.hid (show Below w2.heap.size w2 w3 by rw [hw3]; exact (Below.refl _ _).alloc (Nat.le_refl _) _)
  have Z3 := Lib.hid (show w2.heap.size < w3.heap.size by rw [hw3]; simp)
  have C3 := Lib.hid (show w3.cell? ⟨w2.heap.size, 0, none⟩ = some (.int .u8 K1) ∧ w3.cell? ⟨w2.heap.size, 1, none⟩ = some (.slice ta tn tc) ∧ w3.cell? ⟨w2.heap.size, 2, none⟩ = some (.slice na nn nc) by rw [hw3]; exact ⟨World.cell?_alloc_new _ _ _ _, World.cell?_alloc_new _ _ _ _, World.cell?_alloc_new _ _ _ _⟩)
  have HW3 := Lib.hid hw3
  have B3 := Lib.hid (B2.out.step D3.out B2.out.size)
  have P3 := Lib.hid (P2.out.step D3.out P2.out.size)
  clear hw3
  obtain ⟨k0, k1⟩ := HC.out w3 B3.out
  go_upto_region 5 with (fail)
  rw [← HW3.out]
  go_wp2_with fail
  refine (asframe_any w3 _ _).mono ?_; rintro e w4 ⟨rfl, hb⟩
  have D4 := Lib.hid hb
  have B4 := Lib.hid (B3.out.step hb B3.out.size)
  have P4 := Lib.hid (P3.out.step hb P3.out.size)
  clear hb k0 k1
  go_wp2_with fail
  refine (HRE.out w4).mono ?_
  intro e w5 hm
  obtain ⟨ua, un, uc, va, vn, vc, rfl, hT, hN, hb⟩ := msgout_any hm
  have D5 := Lib.hid (D4.out.trans (hb.mono D4.out.size))
  have B5 := Lib.hid (B4.out.step hb B4.out.size)
  have P5 := Lib.hid (P4.out.step hb P4.out.size)
  have HT5 := Lib.hid hT; have HN5 := Lib.hid hN
  rw [← HK1.out, ← HER.out]
  clear hm hT hN hb
  obtain ⟨w6, hw6⟩ : ∃ x, x = w5.alloc (.cells #[.int .u8 K1, .slice ua un uc, .slice va vn vc] 32) := ⟨_, rfl⟩
  have D6 := Lib.hid (show Below w5.heap.size w5 w6 by rw [hw6]; exact (Below.refl _ _).alloc (Nat.le_refl _) _)
  have Z6 := Lib.hid (show w5.heap.size < w6.heap.size by rw [hw6]; simp)
  have C6 := Lib.hid (show w6.cell? ⟨w5.heap.size, 0, none⟩ = some (.int .u8 K1) ∧ w6.cell? ⟨w5.heap.size, 1, none⟩ = some (.slice ua un uc) ∧ w6.cell? ⟨w5.heap.size, 2, none⟩ = some (.slice va vn vc) by rw [hw6]; exact ⟨World.cell?_alloc_new _ _ _ _, World.cell?_alloc_new _ _ _ _, World.cell?_alloc_new _ _ _ _⟩)
  have HW6 := Lib.hid hw6
  have E6 := Lib.hid (show Below w3.heap.size w3 w6 from D5.out.trans (D6.out.mono D5.out.size))
  have B6 := Lib.hid (B5.out.step D6.out B5.out.size)
  have P6 := Lib.hid (P5.out.step D6.out P5.out.size)
  clear hw6
  go_upto_region 6 with (fail)
  rw [← HW6.out]
  have HSS := Lib.hid (show ∀ W, Below w6.heap.size w6 W → ((W.cell? ⟨w2.heap.size, 0, none⟩ = some (.int .u8 K1) ∧ W.cell? ⟨w2.heap.size, 1, none⟩ = some (.slice ta tn tc) ∧ W.cell? ⟨w2.heap.size, 2, none⟩ = some (.slice na nn nc)) ∧ (W.cell? ⟨w5.heap.size, 0, none⟩ = some (.int .u8 K1) ∧ W.cell? ⟨w5.heap.size, 1, none⟩ = some (.slice ua un uc) ∧ W.cell? ⟨w5.heap.size, 2, none⟩ = some (.slice va vn vc))) ∧ Below w6.heap.size w6 W from by
    intro W hW
    have k : ∀ q i, q < w6.heap.size → W.cell? ⟨q, i, none⟩ = w6.cell? ⟨q, i, none⟩ := fun q i h => hW.cell (p := ⟨q, i, none⟩) h
    have k' : ∀ i, w6.cell? ⟨w2.heap.size, i, none⟩ = w3.cell? ⟨w2.heap.size, i, none⟩ := fun i => E6.out.cell (p := ⟨w2.heap.size, i, none⟩) Z3.out
    have z3 : w2.heap.size < w6.heap.size := Nat.lt_of_lt_of_le Z3.out E6.out.size
    have z6 := Z6.out
    exact ⟨⟨⟨(k _ _ z3).trans ((k' 0).trans C3.out.1), (k _ _ z3).trans ((k' 1).trans C3.out.2.1), (k _ _ z3).trans ((k' 2).trans C3.out.2.2)⟩, (k _ _ z6).trans C6.out.1, (k _ _ z6).trans C6.out.2.1, (k _ _ z6).trans C6.out.2.2⟩, hW⟩)
  have HSA := Lib.hid (show ∀ W, Below w6.heap.size w6 W → Calls Tryd.prog 12 #[.agg #[.int .u8 K1, .slice ta tn tc, .slice na nn nc], .agg #[.int .u8 K1, .slice ua un uc, .slice va vn vc]] W fun e w' => e = .returned (.bool true) ∧ Below W.heap.size W w' from fun W hW => by
    have h2 : Below w2.heap.size w2 W := (D3.out.trans (E6.out.mono D3.out.size)).trans (hW.mono (Nat.le_trans D3.out.size E6.out.size))
    have h5 : Below w5.heap.size w5 W := D6.out.trans (hW.mono D6.out.size)
    have := same_any W (mKind c R) (mKind c R) (mTexts R) (mTexts R) (mNums R) (mNums R) _ _ _ _ (HT2.out.mono h2) (HN2.out.mono h2) (HT5.out.mono h5) (HN5.out.mono h5)
    rw [same_self, ← HK1.out] at this
    exact this)
  have HSTEP := Lib.hid (show ∀ W W', Below w6.heap.size w6 W → Below W.heap.size W W' → ((W'.cell? ⟨w2.heap.size, 0, none⟩ = some (.int .u8 K1) ∧ W'.cell? ⟨w2.heap.size, 1, none⟩ = some (.slice ta tn tc) ∧ W'.cell? ⟨w2.heap.size, 2, none⟩ = some (.slice na nn nc)) ∧ (W'.cell? ⟨w5.heap.size, 0, none⟩ = some (.int .u8 K1) ∧ W'.cell? ⟨w5.heap.size, 1, none⟩ = some (.slice ua un uc) ∧ W'.cell? ⟨w5.heap.size, 2, none⟩ = some (.slice va vn vc))) ∧ Below w6.heap.size w6 W' from fun W W' h hb => HSS.out W' (h.step hb h.size))
  have S0 := HSS.out w6 (Below.refl _ _)
  go_region_held3 (fun W => ((W.cell? ⟨w2.heap.size, 0, none⟩ = some (.int .u8 K1) ∧ W.cell? ⟨w2.heap.size, 1, none⟩ = some (.slice ta tn tc) ∧ W.cell? ⟨w2.heap.size, 2, none⟩ = some (.slice na nn nc)) ∧ (W.cell? ⟨w5.heap.size, 0, none⟩ = some (.int .u8 K1) ∧ W.cell? ⟨w5.heap.size, 1, none⟩ = some (.slice ua un uc) ∧ W.cell? ⟨w5.heap.size, 2, none⟩ = some (.slice va vn vc))) ∧ Below w6.heap.size w6 W) (first | exact S3 | exact S1 | exact ⟨S0.1, S0.2.drew⟩ | exact ⟨S1.1, S1.2.drew⟩)
    (first | (go_at_call 13; refine (as_any _ _ _ _ _ _ _ _).mono ?_; rintro e w8 ⟨rfl, hb8⟩; have S1 := HSTEP.out w6.drew w8 S0.2.drew hb8) | (go_at_call 12; refine (HSA.out _ S1.2).mono ?_; rintro e wx ⟨rfl, hbx⟩; have S3 := HSTEP.out _ wx S1.2 hbx))
  have PX := Lib.hid (P6.out.step S3.2 P6.out.size)
  clear S0 S1 S3 hb8 hbx
  go_wp2_with fail
  go_ret
  exact ⟨rfl, PX.out⟩
theorem cells_frame : Tryd.prog.cellsOf 23 = 2 := by kernel_rfl
theorem decodes_ok (w : World) (back : Bool) (ty : Int) (hty : 0 ≤ ty ∧ ty < 256) (sb : ByteArray) :
    Calls Tryd.prog 3 #[.bool back, .agg #[.int .u8 ty, .string sb]] w fun e w' => e = .returned (.bool true) ∧ Below w.heap.size w w' := by
  have h : ty = ((UInt8.ofNat ty.toNat).toNat : Nat) := by rw [UInt8.toNat_ofNat', Nat.mod_eq_of_lt (by omega)]; omega
  rw [h]
  exact decodes_walk w back _ sb

set_option maxRecDepth 100000 in
theorem decodes_lifted (os : Os) (started : os.Started) (H : Type) (enc : TypeId × Value → H) :
    ReturnsInHanded {} Tryd.checked os 3 .any (fun w args => (Rows.msgDecodesSpec.pre enc Tryd.prog Tryd.f3 Rows.msgDecodesRow.domain false w args ∧ laidMetH Tryd.prog [("unicode/utf8.acceptRanges", Rows.laid_unicode_utf8_acceptRanges), ("unicode/utf8.first", Rows.laid_unicode_utf8_first)] w) ∧ sizedMet enc Tryd.prog Tryd.f3 (OpenSpec.ofChange Rows.msgDecodesSpec) false w args) (Rows.msgDecodesSpec.post enc Tryd.prog Tryd.f3 false true false false) := by
  refine handed_laid (C := Tryd.checked) (X := fun w _ => laidMetH Tryd.prog [("unicode/utf8.acceptRanges", Rows.laid_unicode_utf8_acceptRanges), ("unicode/utf8.first", Rows.laid_unicode_utf8_first)] w) (fun _ _ _ hh h => h.of_heap hh) own started (by kernel_rfl) Tryd.func3
    (ChangeSpec.witness_shaped (enc := enc) (C := Tryd.checked) (os := os) (X := fun w _ => laidMetH Tryd.prog [("unicode/utf8.acceptRanges", Rows.laid_unicode_utf8_acceptRanges), ("unicode/utf8.first", Rows.laid_unicode_utf8_first)] w) false (World.laidAll Tryd.prog os [("unicode/utf8.acceptRanges", Rows.laid_unicode_utf8_acceptRanges), ("unicode/utf8.first", Rows.laid_unicode_utf8_first)]) #[.bool false, .agg #[.int .u8 0, .string { data := #[] }]] 8 (World.laidAll_os _ _ _) (World.shaped_of_ZipB (by kernel_rfl) (by kernel_rfl)) (by kernel_rfl) (by kernel_rfl) (by kernel_rfl)
      (by rw [MakeChecks.laidMetH_plain _ _ _ (by kernel_rfl)]; exact laidMet_laidAll _ (by kernel_rfl) (by kernel_rfl))) ?_
  intro W base args ds gs before hval0 hW hsz0 _ _
  have hsz : (DataW.weightsEach Tryd.prog (Tryd.f3.params.toList ++ Rows.msgDecodesSpec.plain.varTypes Tryd.prog) (ds ++ gs)).all (· ≤ reachBytes) = true := hsz0
  clear hsz0
  have hval : ∀ (j : Nat) t v, Tryd.f3.params[j]? = some t → args[j]? = some v → Value.okWide Tryd.prog W .any base t v := hval0
  have hW' := hW
  obtain ⟨p, q, hA0, hV, rfl, _, _⟩ := hW
  have hA : DataW.TrodAll enc Tryd.prog W 0 (fun _ => true) true Tryd.f3.params.toList args.toList ds p := hA0
  rw [Tryd.params3] at hA hval hsz
  obtain ⟨v0, v1, d0, d1, p0, p1, rfl, rfl, rfl, h0, h1⟩ := trodAll_two hA
  obtain ⟨rfl, rfl⟩ := trodVars_none hV
  obtain ⟨back, rfl, rfl, rfl⟩ := open_bool Tryd.underlying4 (hval 0 4 v0 rfl rfl) h0
  obtain ⟨c1, e1, y1, z1, m1, rfl, rfl, rfl, hy1, hz1⟩ := open_agg2 Tryd.underlying23 (by kernel_rfl) cells_frame (hval 1 23 v1 rfl rfl) h1
  obtain ⟨ty, eq1, rfl, wa1⟩ := DataW.trod_int Tryd.underlying5 hy1
  obtain ⟨body, er1, rfl, ws1⟩ := DataW.trod_string Tryd.underlying9 hz1
  simp at eq1 er1; subst eq1 er1
  have h_ty := byte_range wa1
  refine (decodes_ok W back ty h_ty body).mono fun e W' ⟨he, hb⟩ => ?_
  subst he
  exact ⟨_, rfl, law_shut laidOut (by kernel_rfl) (by kernel_rfl) Tryd.underlying4 rfl hW' rfl hb⟩

theorem decodes_holds : Rows.MsgDecodesSaid :=
  OpenClaim.holds_of_wide 3 Tryd.f3 rfl rfl rfl rfl rfl rfl rfl ⟨rfl, rfl, rfl, rfl, rfl⟩ rfl rfl rfl rfl rfl (by kernel_rfl) Tryd.func3 (by kernel_rfl)
    (of_decide_eq_true (by kernel_rfl)) (by unfold Func.isWrapper; rw [if_neg (of_decide_eq_false (by kernel_rfl))]; exact ⟨rfl, rfl⟩)
    (fun os started H enc _ => decodes_lifted os started H enc)

theorem decodes_card : Rows.MsgDecodesCardSaid :=
  Claim7.holds_tied_plain_at .later [] [.data, .pinned] true _ false decodes_holds (fun _ h => by cases h) (by kernel_rfl) (fun _ h => by cases h) msgDecodes_row_tie rfl ⟨rfl, rfl⟩ (by kernel_rfl) rfl
    (fun f fn hf hfn => by
      obtain rfl : f = 3 := Option.some.inj ((show Tryd.prog.funcNamed "taxirank/taxiranklaw2.MsgDecodes" = some 3 by kernel_rfl).symm.trans hf) |>.symm
      obtain rfl : fn = Tryd.f3 := (Option.some.inj (Tryd.func3.symm.trans hfn)).symm
      exact ⟨by kernel_rfl, fun j t ht => by
        rw [Tryd.params3] at ht
        have hm : t ∈ [4, 23] := by simpa using Array.mem_of_getElem? ht
        have hall : ([4, 23].all fun u => !Tryd.prog.wantsStandIn u) = true := by kernel_rfl
        exact (show Tryd.prog.wantsStandIn t = false by simpa using List.all_eq_true.1 hall t hm)⟩)
    (by kernel_rfl)
end Go.Proofs.YtfdffiphlpeegaaDoor
