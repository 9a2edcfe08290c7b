/- A client begins once, and each message behind its beginning is one event: FrontOnce answers true, whatever it is called with, and leaves what was there as it was. (Over the listed variables, tied to the program's text.) -/
import Derived.Test.YtmofnkinclckoaaDoorZ12
import Derived.Test.YtmofnkinclckoaaDoorZ11
import Derived.BigQuiet
import Derived.Deep.QuietTactic
namespace Go.Proofs.YtmofnkinclckoaaDoor
open Go.RowKit Go.Lib Go.WideShapes Go.ChangeShapes Go.ChangeAt Go.Joins

set_option maxRecDepth 100000 in
set_option maxHeartbeats 16000000 in
theorem once_walk (a0 : Option Addr) (len cap : Nat) (c : Nat → Int) (at' : Int) (w : World) (hC : len = 0 ∨ ∃ b off, a0 = some ⟨b, off, none⟩ ∧ b < w.heap.size ∧ IntsAt w b off len c) (hcr : ∀ i, i < len → -9223372036854775808 ≤ c i ∧ c i ≤ 9223372036854775807) (hat : -9223372036854775808 ≤ at' ∧ at' ≤ 9223372036854775807) :
    Calls Tryd.prog 6 #[.slice a0 len cap, .int .i64 at'] w fun e w' => e = .returned (.bool true) ∧ Below w.heap.size w w' := by
  have HC := Lib.hid hC; have HCR := Lib.hid hcr
  clear hC hcr
  have HSU := Lib.hid (fun W => startU_any W)
  have HKU := Lib.hid (show KTold (({ data := #[] } : ByteArray) ++ startK uT) false [uE] (some ({ data := #[] }, true)) from by
    rw [empty_append, ← append_empty (startK uT)]
    exact told_u ktold_nil)
  have HKA := Lib.hid (show KTold (({ data := #[] } : ByteArray) ++ startK uT) true [wrongEv c_bytes] none from by rw [empty_append]; exact again_u)
  have hz : (startK uT).size ≤ 10010 := startK_size _
  obtain ⟨su, hsu⟩ : ∃ z, z = startK uT := ⟨_, rfl⟩
  rw [← hsu] at HSU HKU HKA hz
  clear hsu
  go_enter Tryd.func6, Tryd.ntmps6
  go_wp2_with fail
  refine (shown18 w).mono ?_; rintro e w1 ⟨rfl, hb⟩
  have B1 := Lib.hid hb
  clear hb
  go_wp2_with fail
  refine (newF_any w1).mono ?_; rintro e w2 ⟨p, q, rfl, hF, hb, hp, hq⟩
  have B2 := Lib.hid (B1.out.step hb B1.out.size)
  have HF2 := Lib.hid hF
  have HP := Lib.hid (show w.heap.size ≤ p ∧ w.heap.size ≤ q from by have := B1.out.size; omega)
  clear hF hb hp hq
  by_cases h30 : 30 < len
  · have h31 : (30 : Int) < len := by omega
    go_wp2_with fail
    go_ret
    exact ⟨rfl, B2.out⟩
  have h32 : decide ((30 : Int) < len) = false := decide_eq_false (by omega)
  have h31 : (len : Int) ≤ 30 := by omega
  go_wp2_with fail
  refine (HSU.out w2).mono ?_; rintro e w3 ⟨rfl, hb⟩
  have HF3 := Lib.hid (HF2.out.grown hb)
  have B3 := Lib.hid (B2.out.step hb B2.out.size)
  clear hb
  go_wp2_with fail
  refine (feed_told HF3.out (by show 0 + _ ≤ _; omega) HKU.out).mono ?_; rintro e w4 ⟨tv, v', rfl, hE, hS, hT, hv⟩
  have B4 := Lib.hid (show Below w.heap.size w w4 from B3.out.trans (hT.below (B := w.heap.size) B3.out.size HP.out.1 HP.out.2 (by simp [Value.ownBlock])))
  obtain ⟨g, gc, rfl, hc1, hc2, hc3, hcell⟩ := hE.read (by simp)
  have hA := hcell 0 _ rfl
  have m0 : w4.cell? ⟨g, 0, none⟩ = some (.int .u8 115) := hA.1
  have hc1' : (1 : Int) ≤ gc := by simp at hc1; omega
  have HF4 := Lib.hid (show FIs w4 p q v' { data := #[] } true from hS)
  have HV4 := Lib.hid (show ∀ k, v'.ownBlock = some k → w.heap.size ≤ k from fun k hk => by
    rcases hv k hk with hh | hh
    · simp [Value.ownBlock] at hh
    · have := B3.out.size; omega)
  have hsl : (Value.slice (some ⟨g, 0, none⟩) [uE].length gc) = .slice (some ⟨g, 0, none⟩) 1 gc := rfl
  rw [hsl]
  clear hE hS hT hv hcell hA hsl hc1
  have HPK := Lib.hid (fun W => pick_any at' (len + 1) W (by omega) (by omega) hat)
  have hnlt : pk at' (len + 1) < len + 1 := pk_lt at' (len + 1) (by omega)
  generalize pk at' (len + 1) = n at HPK hnlt
  rw [show (((len + 1 : Nat)) : Int) = (len : Int) + 1 by omega] at HPK
  go_wp2_with fail
  refine (HPK.out _).mono ?_; rintro e w5 ⟨rfl, rfl⟩
  clear m0
  go_wp2_with fail
  go_loopw [9] (fun i wr => ∃ (j : Nat) (v : Value), i = .int .i64 j ∧ j ≤ len ∧ FIs wr p q v { data := #[] } true ∧ (∀ k, v.ownBlock = some k → w.heap.size ≤ k) ∧ Below w.heap.size w wr) (fun i _ => len - (RowKit.intOf i).toNat)
  case atStart => exact ⟨0, v', rfl, Nat.zero_le _, HF4.out, HV4.out, B4.out⟩
  case round =>
    obtain ⟨j, v, rfl, hj, hF, hv, hb⟩ := hrel
    have HF := Lib.hid hF; have HV := Lib.hid hv; have BW := Lib.hid hb
    clear hF hv hb
    by_cases hlt : j < len
    · have hlt' : (j : Int) < len := by omega
      by_cases hjn : j = n
      · subst hjn
        go_wp2_with fail
        refine (HSU.out wr).mono ?_; rintro e w6 ⟨rfl, hb⟩
        have HF6 := Lib.hid (HF.out.grown hb)
        have B6 := Lib.hid (BW.out.step hb BW.out.size)
        clear hb
        go_wp2_with fail
        refine (feed_told HF6.out (by show 0 + _ ≤ _; omega) HKA.out).mono ?_; rintro e w7 ⟨tv, v7, rfl, hE, ⟨b7, hS⟩, hT, _⟩
        have B7 := Lib.hid (show Below w.heap.size w w7 from B6.out.trans (hT.below (B := w.heap.size) B6.out.size HP.out.1 HP.out.2 HV.out))
        obtain ⟨g7, gc7, rfl, hd1, hd2, hd3, hcell⟩ := hE.read (by simp)
        have hA := hcell 0 _ rfl
        have m0 : w7.cell? ⟨g7, 0, none⟩ = some (.int .u8 101) := hA.1
        have m3 : w7.cell? ⟨g7, 3, none⟩ = some (.string { data := #[48, 56, 80, 48, 49] }) := hA.2.2.2
        have hd1' : (1 : Int) ≤ gc7 := by simp at hd1; omega
        have HS := Lib.hid hS
        have HOV := Lib.hid (over_yes p b7 w7 hS)
        have hsl : (Value.slice (some ⟨g7, 0, none⟩) [wrongEv c_bytes].length gc7) = .slice (some ⟨g7, 0, none⟩) 1 gc7 := rfl
        rw [hsl]
        clear hE hS hT hcell hA hsl hd1
        go_wp2_with fail
        refine HOV.out.mono ?_; rintro e w8 ⟨rfl, rfl⟩
        go_wp2_with fail
        refine (feed_over p b7 _ w7 HS.out).mono ?_; rintro e w8 ⟨rfl, rfl⟩
        go_wp2_with fail
        go_ret
        exact ⟨rfl, B7.out⟩
      · have hjn' : ((j : Int) == (n : Int)) = false := beq_false_of_ne (fun e => hjn (by omega))
        rcases HC.out with h0 | ⟨b, off, rfl, hbl, hcc⟩
        · exact absurd h0 (by omega)
        have hbw : b < wr.heap.size := by have := BW.out.size; omega
        have cj := (BW.out.cell (p := ⟨b, off + j, none⟩) hbl).trans (hcc j hlt)
        have HST := Lib.hid (fun W => statement_any (c j) W (HCR.out j hlt))
        have h0 := stB_free (c j)
        have h40 := stB_size (c j)
        obtain ⟨t, ht⟩ : ∃ t, t = stB (c j) := ⟨_, rfl⟩
        obtain ⟨tb, htb⟩ : ∃ z : ByteArray, z = ⟨t.toArray⟩ := ⟨_, rfl⟩
        have hbt : bytes tb = t := by simp [htb, bytes]
        rw [← ht] at HST h0 h40
        rw [← htb] at HST
        have hts : tb.size ≤ 40 := by rw [← bytes_len, hbt]; exact h40
        have HQ := Lib.hid (fun W => (show Calls Tryd.prog 10 #[.string tb] W (fun e w' => e = .returned (.tuple #[.string (askS t), .int .i64 0]) ∧ Below W.heap.size W w') from by
          have := query_any W tb (by omega)
          rw [query_good (by rw [hbt]; exact h0) (by omega), qS_ask, hbt] at this
          exact this))
        have HK := Lib.hid (show KTold (({ data := #[] } : ByteArray) ++ (askS t ++ { data := #[83, 0, 0, 0, 4] })) true [askE t, syncE] (some ({ data := #[] }, true)) from by
          rw [empty_append]
          refine told_ask h0 (by omega) ?_
          rw [← append_empty ({ data := #[83, 0, 0, 0, 4] } : ByteArray)]
          exact told_sync ktold_nil)
        have hqz : (askS t).size ≤ 100 := by
          unfold askS packB packL
          rw [if_neg (by decide)]
          show Array.size _ ≤ _
          simp [be4_length]
          omega
        obtain ⟨sq, hsq⟩ : ∃ z, z = askS t := ⟨_, rfl⟩
        rw [← hsq] at HQ HK hqz
        have HTB := Lib.hid htb
        have HCC := Lib.hid hcc
        clear hsq ht htb hbt h0 h40 hcc
        go_wp2_with fail
        refine (HST.out wr).mono ?_; rintro e w6 ⟨rfl, hb⟩
        have HF6 := Lib.hid (HF.out.grown hb)
        have B6 := Lib.hid (BW.out.step hb BW.out.size)
        clear hb
        go_wp2_with fail
        refine (HQ.out w6).mono ?_; rintro e w7 ⟨rfl, hb⟩
        have HF7 := Lib.hid (HF6.out.grown hb)
        have B7 := Lib.hid (B6.out.step hb B6.out.size)
        clear hb
        go_wp2_with fail
        refine (feed_told HF7.out (by rw [ByteArray.size_append]; show 0 + (sq.size + 5) ≤ _; omega) HK.out).mono ?_; rintro e w8 ⟨tv, v8, rfl, hE, hS, hT, hv⟩
        have B8 := Lib.hid (show Below w.heap.size w w8 from B7.out.trans (hT.below (B := w.heap.size) B7.out.size HP.out.1 HP.out.2 HV.out))
        obtain ⟨g8, gc8, rfl, hd1, hd2, hd3, hcell⟩ := hE.read (by simp)
        have hA := hcell 0 _ rfl
        have hB := hcell 1 _ rfl
        have m0 : w8.cell? ⟨g8, 0, none⟩ = some (.int .u8 113) := hA.1
        have m3 : w8.cell? ⟨g8, 3, none⟩ = some (.string tb) := by rw [HTB.out]; exact hA.2.2.2
        have m5 : w8.cell? ⟨g8, 5, none⟩ = some (.int .u8 121) := hB.1
        have hd1' : (2 : Int) ≤ gc8 := by simp at hd1; omega
        have cj8 := (B8.out.cell (p := ⟨b, off + j, none⟩) hbl).trans (HCC.out j hlt)
        have hb8 : b < w8.heap.size := by have := B8.out.size; omega
        have HF8 := Lib.hid (show FIs w8 p q v8 { data := #[] } true from hS)
        have HV8 := Lib.hid (show ∀ k, v8.ownBlock = some k → w.heap.size ≤ k from fun k hk => by
          rcases hv k hk with hh | hh
          · exact HV.out k hh
          · have := B7.out.size; omega)
        have hsl : (Value.slice (some ⟨g8, 0, none⟩) [askE t, syncE].length gc8) = .slice (some ⟨g8, 0, none⟩) 2 gc8 := rfl
        rw [hsl]
        clear hE hS hT hv hcell hA hB hsl hd1 cj hbw hd2
        have S0 : (w8.cell? ⟨g8, 0, none⟩ = some (.int .u8 113) ∧ w8.cell? ⟨g8, 3, none⟩ = some (.string tb) ∧ w8.cell? ⟨g8, 5, none⟩ = some (.int .u8 121) ∧ w8.cell? ⟨b, off + j, none⟩ = some (.int .i64 (c j))) ∧ (w8.heap.size ≤ w8.heap.size ∧ Below w8.heap.size w8 w8) := ⟨⟨m0, m3, m5, cj8⟩, Nat.le_refl _, Below.refl _ _⟩
        have HSTEP := Lib.hid (show ∀ W W', ((W.cell? ⟨g8, 0, none⟩ = some (.int .u8 113) ∧ W.cell? ⟨g8, 3, none⟩ = some (.string tb) ∧ W.cell? ⟨g8, 5, none⟩ = some (.int .u8 121) ∧ W.cell? ⟨b, off + j, none⟩ = some (.int .i64 (c j))) ∧ (w8.heap.size ≤ W.heap.size ∧ Below w8.heap.size w8 W)) → Below W.heap.size W W' → ((W'.cell? ⟨g8, 0, none⟩ = some (.int .u8 113) ∧ W'.cell? ⟨g8, 3, none⟩ = some (.string tb) ∧ W'.cell? ⟨g8, 5, none⟩ = some (.int .u8 121) ∧ W'.cell? ⟨b, off + j, none⟩ = some (.int .i64 (c j))) ∧ (w8.heap.size ≤ W'.heap.size ∧ Below w8.heap.size w8 W')) from fun W W' h hb' => ⟨⟨(hb'.cell (p := ⟨g8, 0, none⟩) (Nat.lt_of_lt_of_le hd3 h.2.1)).trans h.1.1, (hb'.cell (p := ⟨g8, 3, none⟩) (Nat.lt_of_lt_of_le hd3 h.2.1)).trans h.1.2.1, (hb'.cell (p := ⟨g8, 5, none⟩) (Nat.lt_of_lt_of_le hd3 h.2.1)).trans h.1.2.2.1, (hb'.cell (p := ⟨b, off + j, none⟩) (Nat.lt_of_lt_of_le hb8 h.2.1)).trans h.1.2.2.2⟩, Nat.le_trans h.2.1 hb'.size, h.2.2.step hb' h.2.1⟩)
        clear m0 m3 m5 cj8
        go_upto_region 17 with (fail)
        go_region_held3 (fun w' => (w'.cell? ⟨g8, 0, none⟩ = some (.int .u8 113) ∧ w'.cell? ⟨g8, 3, none⟩ = some (.string tb) ∧ w'.cell? ⟨g8, 5, none⟩ = some (.int .u8 121) ∧ w'.cell? ⟨b, off + j, none⟩ = some (.int .i64 (c j))) ∧ (w8.heap.size ≤ w'.heap.size ∧ Below w8.heap.size w8 w')) (first | exact S1 | exact ⟨S0.1, S0.2.1, S0.2.2.drew⟩ | exact S0)
          (first | (go_at_call 11; refine (HST.out w8.drew).mono ?_; rintro e w9 ⟨rfl, hb9⟩; have S1 := HSTEP.out w8.drew w9 ⟨S0.1, S0.2.1, S0.2.2.drew⟩ hb9))
        go_wp2_with fail
        go_roundw
        case measure => first | omega | (simp [RowKit.intOf]; omega)
        case rel => exact ⟨j + 1, v8, by go_num, by omega, HF8.out.grown S1.2.2, HV8.out, B8.out.step S1.2.2 B8.out.size⟩
    · obtain rfl : j = len := by omega
      have hge : ¬ ((j : Int)) < j := by omega
      have HOV := Lib.hid (over_no p q true wr HF.out.cell)
      go_wp2_with fail
      refine HOV.out.mono ?_; rintro e w8 ⟨rfl, rfl⟩
      go_wp2_with fail
      go_ret
      exact ⟨rfl, BW.out⟩
set_option maxRecDepth 100000 in
theorem once_lifted (os : Os) (started : os.Started) (H : Type) (enc : TypeId × Value → H) :
    ReturnsInHanded {} Tryd.checked os 6 .any (fun w args => (Rows.frontOnceSpec.pre enc Tryd.prog Tryd.f6 Rows.frontOnceRow.domain false w args ∧ laidMetH Tryd.prog [("unicode/utf8.acceptRanges", Rows.laid_unicode_utf8_acceptRanges), ("unicode/utf8.first", Rows.laid_unicode_utf8_first)] w) ∧ sizedMet enc Tryd.prog Tryd.f6 (OpenSpec.ofChange Rows.frontOnceSpec) false w args) (Rows.frontOnceSpec.post enc Tryd.prog Tryd.f6 false true false false) := by
  refine handed_laid (C := Tryd.checked) (X := fun w _ => laidMetH Tryd.prog [("unicode/utf8.acceptRanges", Rows.laid_unicode_utf8_acceptRanges), ("unicode/utf8.first", Rows.laid_unicode_utf8_first)] w) (fun _ _ _ hh h => h.of_heap hh) own started (by kernel_rfl) Tryd.func6
    (ChangeSpec.witness_shaped (enc := enc) (C := Tryd.checked) (os := os) (X := fun w _ => laidMetH Tryd.prog [("unicode/utf8.acceptRanges", Rows.laid_unicode_utf8_acceptRanges), ("unicode/utf8.first", Rows.laid_unicode_utf8_first)] w) false (World.laidAll Tryd.prog os [("unicode/utf8.acceptRanges", Rows.laid_unicode_utf8_acceptRanges), ("unicode/utf8.first", Rows.laid_unicode_utf8_first)]) #[.slice none 0 0, .int .i64 0] 8 (World.laidAll_os _ _ _) (World.shaped_of_ZipB (by kernel_rfl) (by kernel_rfl)) (by kernel_rfl) (by kernel_rfl) (by kernel_rfl)
      (by rw [MakeChecks.laidMetH_plain _ _ _ (by kernel_rfl)]; exact laidMet_laidAll _ (by kernel_rfl) (by kernel_rfl))) ?_
  intro W base args ds gs before hval0 hW hsz0 _ _
  have hsz : (DataW.weightsEach Tryd.prog (Tryd.f6.params.toList ++ Rows.frontOnceSpec.plain.varTypes Tryd.prog) (ds ++ gs)).all (· ≤ reachBytes) = true := hsz0
  clear hsz0
  have hval : ∀ (j : Nat) t v, Tryd.f6.params[j]? = some t → args[j]? = some v → Value.okWide Tryd.prog W .any base t v := hval0
  have hW' := hW
  obtain ⟨p, q, hA0, hV, rfl, _, _⟩ := hW
  have hA : DataW.TrodAll enc Tryd.prog W 0 (fun _ => true) true Tryd.f6.params.toList args.toList ds p := hA0
  rw [Tryd.params6] at hA hval hsz
  obtain ⟨v0, v1, d0, d1, p0, p1, rfl, rfl, rfl, h0, h1⟩ := trodAll_two hA
  obtain ⟨rfl, rfl⟩ := trodVars_none hV
  obtain ⟨a0, len, cap, rfl⟩ := okWide_slice Tryd.underlying22 (hval 0 22 v0 rfl rfl)
  obtain ⟨c, hcr, hC⟩ := open_row h0
  obtain ⟨ax, rfl, rfl, rfl, wf_ax⟩ := open_int Tryd.underlying3 (hval 1 3 v1 rfl rfl) h1
  have h_ax := int_range wf_ax
  refine (once_walk a0 len cap c ax W hC hcr h_ax).mono fun e W' ⟨he, hb⟩ => ?_
  subst he
  exact ⟨_, rfl, law_shut laidOut (by kernel_rfl) (by kernel_rfl) Tryd.underlying4 rfl hW' rfl hb⟩

theorem once_holds : Rows.FrontOnceSaid :=
  OpenClaim.holds_of_wide 6 Tryd.f6 rfl rfl rfl rfl rfl rfl rfl ⟨rfl, rfl, rfl, rfl, rfl⟩ rfl rfl rfl rfl rfl (by kernel_rfl) Tryd.func6 (by kernel_rfl)
    (of_decide_eq_true (by kernel_rfl)) (by unfold Func.isWrapper; rw [if_neg (of_decide_eq_false (by kernel_rfl))]; exact ⟨rfl, rfl⟩)
    (fun os started H enc _ => once_lifted os started H enc)

theorem once_card : Rows.FrontOnceCardSaid :=
  Claim7.holds_tied_plain_at .later [] [.data, .pinned] true _ false once_holds (fun _ h => by cases h) (by kernel_rfl) (fun _ h => by cases h) frontOnce_row_tie rfl ⟨rfl, rfl⟩ (by kernel_rfl) rfl
    (fun f fn hf hfn => by
      obtain rfl : f = 6 := Option.some.inj ((show Tryd.prog.funcNamed "taxirank/taxiranklaw18.FrontOnce" = some 6 by kernel_rfl).symm.trans hf) |>.symm
      obtain rfl : fn = Tryd.f6 := (Option.some.inj (Tryd.func6.symm.trans hfn)).symm
      exact ⟨by kernel_rfl, fun j t ht => by
        rw [Tryd.params6] at ht
        have hm : t ∈ [22, 3] := by simpa using Array.mem_of_getElem? ht
        have hall : ([22, 3].all fun u => !Tryd.prog.wantsStandIn u) = true := by kernel_rfl
        exact (show Tryd.prog.wantsStandIn t = false by simpa using List.all_eq_true.1 hall t hm)⟩)
    (by kernel_rfl)
end Go.Proofs.YtmofnkinclckoaaDoor
