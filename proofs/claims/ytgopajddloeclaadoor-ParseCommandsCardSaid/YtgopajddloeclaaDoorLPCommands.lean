/- What a text asks for, and what tokens ask for, are as the chapter says: ParseCommands answers true, whatever text and tokens it is called with, and leaves what was there as it was. (Over the listed variable, tied to the program's text.) -/
import Derived.Test.YtgopajddloeclaaDoorZ13
import Derived.Test.YtgopajddloeclaaDoorZ26
import Derived.Test.YtgopajddloeclaaDoorZ34
import Derived.Test.YtgopajddloeclaaDoorZ38
import Derived.Test.YtgopajddloeclaaDoorZ39
namespace Go.Proofs.YtgopajddloeclaaDoor
open Go.RowKit Go.Lib Go.WideShapes Go.ChangeShapes Go.ChangeAt Go.Joins

theorem text_size9 (t : Bs) : (⟨t.toArray⟩ : ByteArray).size = t.length := by show Array.size _ = _; simp
theorem open_cap {H : Type} {enc : TypeId × Value → H} {w : World} {a : Option Addr} {len cap : Nat} {d : DataW H} {p : List MemPlace} (h : DataW.Trod enc Tryd.prog w 0 (fun _ => true) true 22 (.slice a len cap) d p) : len ≤ cap ∧ cap ≤ 9223372036854775807 := by
  obtain ⟨fuel, hf⟩ := h
  have hf' : DataW.trod enc Tryd.prog w 0 (fun _ => true) true fuel 22 [.slice a len cap] = some (d, p) := by simpa [Value.cells] using hf
  rcases Go.Deep.open_slice Tryd.underlying22 hf' with ⟨h0, _⟩ | ⟨a', len', cap', m, n, D, Pl, hcs, _, hl, hc, _⟩
  · simp at h0
    obtain ⟨_, rfl, rfl⟩ := h0
    exact ⟨Nat.le_refl _, by decide⟩
  · simp only [List.cons.injEq, Value.slice.injEq, and_true] at hcs
    obtain ⟨rfl, rfl, rfl⟩ := hcs
    exact ⟨hl, by simp only [maxLen] at hc; omega⟩

set_option maxRecDepth 100000 in
set_option maxHeartbeats 16000000 in
theorem commands_walk (s : ByteArray) (p : Option Addr) (T : List Tok) (n c : Nat) (m : Int) (w : World) (hs : s.size ≤ 4000) (hT : T.length = n) (hn : n ≤ 50) (hnc : n ≤ c) (hc9 : c ≤ 9223372036854775807) (hA : TokW w p T) (hm : w.cell? ⟨2, 0, none⟩ = some (.int .i64 m)) (hbar : BarredAt w) :
    Calls Tryd.prog 3 #[.string s, .slice p n c] w fun e w' => e = .returned (.bool true) ∧ Below w.heap.size w w' := by
  have HM := Lib.hid hm
  have HW0 := Lib.hid (World.block_lt_of_cell? w ⟨2, 0, none⟩ hm)
  have HSH := Lib.hid (shown9_true m w hm hbar)
  have HT := Lib.hid hT; have HA := Lib.hid hA; have HK := Lib.hid hbar
  have HNC := Lib.hid (And.intro hnc hc9)
  clear hm hT hA hbar hnc hc9
  go_enter Tryd.func3, Tryd.ntmps3
  go_wp2_with fail
  refine HSH.out.mono ?_; rintro e w1 ⟨rfl, hb1⟩
  have HB1 := Lib.hid hb1
  have HM1 := Lib.hid ((hb1.cell (p := ⟨2, 0, none⟩) HW0.out).trans HM.out)
  have HA1 := Lib.hid (HA.out.step hb1)
  have HK1 := Lib.hid (HK.out.step hb1)
  have HW1 := Lib.hid (show 2 < w1.heap.size from Nat.lt_of_lt_of_le HW0.out hb1.size)
  clear hb1 HSH
  go_wp2_with fail
  go_loopw [6] (fun i wr => ∃ k : Nat, i = .int .i64 k ∧ k ≤ n ∧ (∀ (j : Nat) (q : Tok), j < k → T[j]? = some q → q.text.length ≤ 300) ∧ w1 = wr) (fun i _ => n - (RowKit.intOf i).toNat)
  case atStart => exact ⟨0, by go_num, Nat.zero_le _, fun j q h => absurd h (Nat.not_lt_zero _), rfl⟩
  case round =>
    obtain ⟨k, rfl, hk, hall, rfl⟩ := hrel
    have HALL := Lib.hid hall
    clear hall
    by_cases hlt : k < n
    · have hlt' : (k : Int) < n := by omega
      obtain ⟨t, ht⟩ : ∃ t, T[k]? = some t := ⟨_, List.getElem?_eq_getElem (by rw [HT.out]; exact hlt)⟩
      obtain ⟨g, off, rfl, hg⟩ : ∃ g off, p = some ⟨g, off, none⟩ ∧ g < w1.heap.size := by
        rcases HA1.out with h | ⟨g, off, hp, hg, _⟩
        · rw [h] at ht; cases ht
        · exact ⟨g, off, hp, hg⟩
      obtain ⟨_, _, a1, _⟩ := HA1.out.get ht
      have HNX := Lib.hid (show t.text.length ≤ 300 → ∀ (j : Nat) (q : Tok), j < k + 1 → T[j]? = some q → q.text.length ≤ 300 from fun h j q hj hq => by
        rcases Nat.lt_succ_iff_lt_or_eq.1 hj with h' | rfl
        · exact HALL.out j q h' hq
        · rw [ht] at hq; cases hq; exact h)
      have HSZ := Lib.hid (text_size9 t.text)
      clear ht
      generalize (⟨t.text.toArray⟩ : ByteArray) = XT at a1 HSZ
      by_cases h5 : XT.size ≤ 300
      · have h5' : ¬ (300 : Int) < XT.size := by omega
        have HN1 := Lib.hid (HNX.out (by rw [← HSZ.out]; exact h5))
        go_wp2_with fail
        go_roundw
        case rel => exact ⟨k + 1, by go_num, by omega, HN1.out, by first | rfl | trivial⟩
        case measure => simp [RowKit.intOf]; omega
      · have h5' : (300 : Int) < XT.size := by omega
        go_wp2_with fail
        go_ret
        exact ⟨rfl, HB1.out⟩
    · obtain rfl : k = n := by omega
      have HTX := Lib.hid (show ∀ q ∈ T, q.text.length ≤ 2000 from fun q hq => by
        obtain ⟨j, hj, e⟩ := List.mem_iff_getElem.1 hq
        have := HALL.out j q (by rw [← HT.out]; exact hj) (by rw [List.getElem?_eq_getElem hj, e])
        omega)
      have HP1 := Lib.hid (parse_all s m w1 (by omega) HM1.out HK1.out)
      have HP2 := Lib.hid (fun W => rparse_any s W (by omega))
      have HO1 := Lib.hid (fun W (h : Below w1.heap.size w1 W) => of_any p T k c 0 0 m W HT.out (by omega) HNC.out.1 HNC.out.2 (HA1.out.step h) HTX.out ((h.cell (p := ⟨2, 0, none⟩) HW1.out).trans HM1.out) (HK1.out.step h))
      have HO2 := Lib.hid (fun p' c' W h1 h2 (h : TokW W p' T) => rof_any p' T k c' W HT.out (by omega) h1 h2 h HTX.out)
      have HAA := Lib.hid (fun W (h : Below w1.heap.size w1 W) => asall9_any p T k c W HT.out (by omega) (HA1.out.step h))
      generalize parsedC (bytes s) = q at HP1 HP2
      generalize ofC T = o at HO1 HO2
      obtain ⟨⟨qk, qn, qv⟩, qe⟩ := q
      obtain ⟨ok, on, ov⟩ := o
      simp only [Cmd.val] at HP1 HP2 HO1 HO2
      generalize ((qk.toNat : Nat) : Int) = kz at HP1 HP2
      generalize (⟨qn.toArray⟩ : ByteArray) = XN at HP1 HP2
      generalize (⟨qv.toArray⟩ : ByteArray) = XV at HP1 HP2
      generalize ((qe : Nat) : Int) = ez at HP1 HP2
      generalize ((ok.toNat : Nat) : Int) = lz at HO1 HO2
      generalize (⟨on.toArray⟩ : ByteArray) = YN at HO1 HO2
      generalize (⟨ov.toArray⟩ : ByteArray) = YV at HO1 HO2
      clear qk qn qv qe ok on ov
      have tz : (ez == ez) = true := by simp
      go_wp2_with fail
      refine HP1.out.mono ?_; rintro e w2 ⟨rfl, hb2⟩
      obtain ⟨W3, hW3⟩ : ∃ x, x = w2.alloc (.cells #[.int .u8 kz, .string XN, .string XV] 27) := ⟨_, rfl⟩
      have HE3 := Lib.hid hW3
      have HB3 := Lib.hid (show Below w1.heap.size w1 W3 from by rw [hW3]; exact hb2.alloc hb2.size _)
      have HL3 := Lib.hid (show w2.heap.size < W3.heap.size from by rw [hW3]; simp)
      have HC3 := Lib.hid (show W3.cell? ⟨w2.heap.size, 0, none⟩ = some (.int .u8 kz) ∧ W3.cell? ⟨w2.heap.size, 1, none⟩ = some (.string XN) ∧ W3.cell? ⟨w2.heap.size, 2, none⟩ = some (.string XV) from by rw [hW3]; simp [go_sem])
      clear hb2 hW3 HP1
      go_wp2_with fail
      rw [← HE3.out]
      refine (HP2.out W3).mono ?_; rintro e w4 ⟨rfl, hb4⟩
      obtain ⟨W5, hW5⟩ : ∃ x, x = w4.alloc (.cells #[.int .u8 kz, .string XN, .string XV] 31) := ⟨_, rfl⟩
      have HE5 := Lib.hid hW5
      have hb35 : Below W3.heap.size W3 W5 := by rw [hW5]; exact hb4.alloc hb4.size _
      have HB5 := Lib.hid (show Below w1.heap.size w1 W5 from HB3.out.step hb35 HB3.out.size)
      have hl35 : w2.heap.size < W5.heap.size := Nat.lt_of_lt_of_le HL3.out hb35.size
      have hl45 : w4.heap.size < W5.heap.size := by rw [hW5]; simp
      have HKEEP := Lib.hid (show ∀ W, Below W5.heap.size W5 W → ((W.cell? ⟨w2.heap.size, 0, none⟩ = some (.int .u8 kz) ∧ W.cell? ⟨w2.heap.size, 1, none⟩ = some (.string XN) ∧ W.cell? ⟨w2.heap.size, 2, none⟩ = some (.string XV) ∧ W.cell? ⟨w4.heap.size, 0, none⟩ = some (.int .u8 kz) ∧ W.cell? ⟨w4.heap.size, 1, none⟩ = some (.string XN) ∧ W.cell? ⟨w4.heap.size, 2, none⟩ = some (.string XV)) ∧ Below W5.heap.size W5 W) from fun W h => by
        have d : ∀ j, W.cell? ⟨w2.heap.size, j, none⟩ = W3.cell? ⟨w2.heap.size, j, none⟩ := fun j => (h.cell (p := ⟨w2.heap.size, j, none⟩) hl35).trans (hb35.cell (p := ⟨w2.heap.size, j, none⟩) HL3.out)
        have f : ∀ j, W.cell? ⟨w4.heap.size, j, none⟩ = W5.cell? ⟨w4.heap.size, j, none⟩ := fun j => h.cell (p := ⟨w4.heap.size, j, none⟩) hl45
        refine ⟨⟨(d 0).trans HC3.out.1, (d 1).trans HC3.out.2.1, (d 2).trans HC3.out.2.2, (f 0).trans ?_, (f 1).trans ?_, (f 2).trans ?_⟩, h⟩ <;> rw [hW5] <;> simp [go_sem])
      have HT1 := Lib.hid (fun W (h : Below W5.heap.size W5 W) => HB5.out.step h HB5.out.size)
      clear hb4 hW5 hb35 hl35 hl45 HP2
      go_upto_region 11 with (fail)
      rw [← HE5.out]
      have S0 := HKEEP.out W5 (Below.refl _ _)
      go_region_held3 (fun W => (W.cell? ⟨w2.heap.size, 0, none⟩ = some (.int .u8 kz) ∧ W.cell? ⟨w2.heap.size, 1, none⟩ = some (.string XN) ∧ W.cell? ⟨w2.heap.size, 2, none⟩ = some (.string XV) ∧ W.cell? ⟨w4.heap.size, 0, none⟩ = some (.int .u8 kz) ∧ W.cell? ⟨w4.heap.size, 1, none⟩ = some (.string XN) ∧ W.cell? ⟨w4.heap.size, 2, none⟩ = some (.string XV)) ∧ Below W5.heap.size W5 W) (first | exact S5 | exact S4 | exact S3 | exact S2 | exact S1 | exact HKEEP.out _ S0.2.drew)
        (first
          | (go_at_call 13; refine (as9_any kz XN XV _).mono ?_; rintro e w6 ⟨rfl, hb6⟩; have S1 := HKEEP.out w6 (S0.2.drew.step hb6 (Nat.le_refl _)))
          | (go_at_call 14; refine (HO1.out _ (HT1.out _ S1.2)).mono ?_; rintro e w7 ⟨rfl, hb7⟩; have S2 := HKEEP.out w7 (S1.2.step hb7 S1.2.size))
          | (go_at_call 13; refine (as9_any lz YN YV _).mono ?_; rintro e w8 ⟨rfl, hb8⟩; have S3 := HKEEP.out w8 (S2.2.step hb8 S2.2.size))
          | (go_at_call 16; refine (HAA.out _ (HT1.out _ S3.2)).mono ?_; rintro e w9 ⟨hb9, p', c', rfl, hc1, hc2, hw9⟩; have S4 := HKEEP.out w9 (S3.2.step hb9 S3.2.size))
          | (go_at_call 15; refine (HO2.out p' c' _ hc1 hc2 hw9).mono ?_; rintro e w10 ⟨rfl, hb10⟩; have S5 := HKEEP.out w10 (S4.2.step hb10 S4.2.size)))
      go_wp2_with fail
      go_ret
      exact ⟨rfl, HB1.out.step (HT1.out _ S5.2) HB1.out.size⟩

set_option maxRecDepth 100000 in
theorem commands_early (s : ByteArray) (p : Option Addr) (n c : Nat) (m : Int) (w : World) (h1 : (4000 : Int) < s.size ∨ (s.size : Int) ≤ 4000 ∧ (50 : Int) < n) (hm : w.cell? ⟨2, 0, none⟩ = some (.int .i64 m)) (hbar : BarredAt w) :
    Calls Tryd.prog 3 #[.string s, .slice p n c] w fun e w' => e = .returned (.bool true) ∧ Below w.heap.size w w' := by
  have HSH := Lib.hid (shown9_true m w hm hbar)
  clear hm hbar
  rcases h1 with h1 | ⟨h0, h1⟩ <;>
  · go_enter Tryd.func3, Tryd.ntmps3
    go_wp2_with fail
    refine HSH.out.mono ?_; rintro e w1 ⟨rfl, hb1⟩
    have HB1 := Lib.hid hb1
    clear hb1 HSH
    go_wp2_with fail
    go_ret
    exact ⟨rfl, HB1.out⟩

theorem commands_ok (s : ByteArray) (p : Option Addr) (T : List Tok) (n c : Nat) (m : Int) (w : World) (hT : T.length = n) (hcap : n ≤ c ∧ c ≤ 9223372036854775807) (hA : TokW w p T) (hm : w.cell? ⟨2, 0, none⟩ = some (.int .i64 m)) (hbar : BarredAt w) :
    Calls Tryd.prog 3 #[.string s, .slice p n c] w fun e w' => e = .returned (.bool true) ∧ Below w.heap.size w w' := by
  by_cases h : s.size ≤ 4000
  · by_cases h2 : n ≤ 50
    · exact commands_walk s p T n c m w h hT h2 hcap.1 hcap.2 hA hm hbar
    · exact commands_early s p n c m w (.inr ⟨by omega, by omega⟩) hm hbar
  · exact commands_early s p n c m w (.inl (by omega)) hm hbar

set_option maxRecDepth 100000 in
theorem commands_lifted (os : Os) (started : os.Started) (H : Type) (enc : TypeId × Value → H) :
    ReturnsInHanded {} Tryd.checked os 3 .any (fun w args => (Rows.parseCommandsSpec.pre enc Tryd.prog Tryd.f3 Rows.parseCommandsRow.domain false w args ∧ laidMetH Tryd.prog [("taxirank/parse.barred", Rows.laid_taxirank_parse_barred)] w) ∧ sizedMet enc Tryd.prog Tryd.f3 (OpenSpec.ofChange Rows.parseCommandsSpec) false w args) (Rows.parseCommandsSpec.post enc Tryd.prog Tryd.f3 false true false false) := by
  refine handed_laid (C := Tryd.checked) (X := fun w _ => laidMetH Tryd.prog [("taxirank/parse.barred", Rows.laid_taxirank_parse_barred)] w) (fun _ _ _ hh h => h.of_heap hh) own started (by kernel_rfl) Tryd.func3
    (ChangeSpec.witness_shaped (enc := enc) (C := Tryd.checked) (os := os) (X := fun w _ => laidMetH Tryd.prog [("taxirank/parse.barred", Rows.laid_taxirank_parse_barred)] w) false (World.laidAll Tryd.prog os [("taxirank/parse.barred", Rows.laid_taxirank_parse_barred)]) #[.string { data := #[] }, .slice none 0 0] 8 (World.laidAll_os _ _ _) (World.shaped_of_ZipB (by kernel_rfl) (by kernel_rfl)) (by kernel_rfl) (by kernel_rfl) (by kernel_rfl)
      (by rw [MakeChecks.laidMetH_plain _ _ _ (by kernel_rfl)]; exact laidMet_laidAll _ (by kernel_rfl) (by kernel_rfl))) ?_
  intro W base args ds gs before hval0 hW hsz0 hsh hL
  obtain ⟨m, hm⟩ : ∃ m, W.cell? ⟨2, 0, none⟩ = some (.int .i64 m) := Tryd.laysM143.s1_3 W hsh
  have hbar := barred_of_one hL
  have hsz : (DataW.weightsEach Tryd.prog (Tryd.f3.params.toList ++ Rows.parseCommandsSpec.plain.varTypes Tryd.prog) (ds ++ gs)).all (· ≤ reachBytes) = true := hsz0
  clear hsz0
  have hval : ∀ (j : Nat) t v, Tryd.f3.params[j]? = some t → args[j]? = some v → Value.okWide Tryd.prog W .any base t v := hval0
  have hW' := hW
  obtain ⟨p, q, hA0, hV, rfl, _, _⟩ := hW
  have hA : DataW.TrodAll enc Tryd.prog W 0 (fun _ => true) true Tryd.f3.params.toList args.toList ds p := hA0
  rw [Tryd.params3] at hA hval hsz
  obtain ⟨v0, v1, d0, d1, p0, p1, rfl, rfl, rfl, h0, h1⟩ := trodAll_two hA
  obtain ⟨rfl, rfl⟩ := trodVars_none hV
  obtain ⟨s, rfl, rfl, rfl, hl_s⟩ := Go.ChangeMaps.open_string Tryd.underlying9 (hval 0 9 v0 rfl rfl) h0
  have hz_s : s.size ≤ 140737488351232 := by have := sized_string hsz (j := 0) (t := 9) rfl rfl; rw [size_list] at this; exact this
  obtain ⟨a1, len, cap, rfl⟩ := okWide_slice Tryd.underlying22 (hval 1 22 v1 rfl rfl)
  obtain ⟨T, hTl, hTw⟩ := open_toks h1
  have hcap := open_cap h1
  refine (commands_ok s a1 T len cap m W hTl hcap hTw hm hbar).mono fun e W' ⟨he, hb⟩ => ?_
  subst he
  exact ⟨_, rfl, law_shut laidOut (by kernel_rfl) (by kernel_rfl) Tryd.underlying4 rfl hW' rfl hb⟩

theorem commands_holds : Rows.ParseCommandsSaid :=
  OpenClaim.holds_of_wide 3 Tryd.f3 rfl rfl rfl rfl rfl rfl rfl ⟨rfl, rfl, rfl, rfl, rfl⟩ rfl rfl rfl rfl rfl (by kernel_rfl) Tryd.func3 (by kernel_rfl)
    (of_decide_eq_true (by kernel_rfl)) (by unfold Func.isWrapper; rw [if_neg (of_decide_eq_false (by kernel_rfl))]; exact ⟨rfl, rfl⟩)
    (fun os started H enc _ => commands_lifted os started H enc)

theorem commands_card : Rows.ParseCommandsCardSaid :=
  Claim7.holds_tied_plain_at .later [] [.data] true _ false commands_holds (fun _ h => by cases h) (by kernel_rfl) (fun _ h => by cases h) parseCommands_row_tie rfl ⟨rfl, rfl⟩ (by kernel_rfl) rfl
    (fun f fn hf hfn => by
      obtain rfl : f = 3 := Option.some.inj ((show Tryd.prog.funcNamed "taxirank/taxiranklaw9.ParseCommands" = some 3 by kernel_rfl).symm.trans hf) |>.symm
      obtain rfl : fn = Tryd.f3 := (Option.some.inj (Tryd.func3.symm.trans hfn)).symm
      exact ⟨by kernel_rfl, fun j t ht => by
        rw [Tryd.params3] at ht
        have hm : t ∈ [9, 22] := by simpa using Array.mem_of_getElem? ht
        have hall : ([9, 22].all fun u => !Tryd.prog.wantsStandIn u) = true := by kernel_rfl
        exact (show Tryd.prog.wantsStandIn t = false by simpa using List.all_eq_true.1 hall t hm)⟩)
    (by kernel_rfl)
end Go.Proofs.YtgopajddloeclaaDoor
