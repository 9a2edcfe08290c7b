/- What is told of a text's tokens has the same tokens, each of them stands behind the one ahead of it, and between them there is none: ScanAgain answers true, and leaves what was there as it was. (Over the listed variables, tied to the program's text.) -/
import Derived.Test.YtckimeikiakfcaaDoorCard
import Derived.Test.YtckimeikiakfcaaDoorAgainM
import Derived.Test.YtckimeikiakfcaaDoorJoinsM
import Derived.Test.YtckimeikiakfcaaDoorShown
import Derived.Test.YtckimeikiakfcaaDoorFieldsA
import Derived.BigQuiet
import Derived.WalkSmall
import Derived.Deep.QuietTactic
namespace Go.Proofs.YtckimeikiakfcaaDoor
open Go.RowKit Go.Lib Go.WideShapes Go.ChangeShapes Go.ChangeAt Go.Joins

/-- A text without tokens, scanned. -/
theorem scan_none (S : ByteArray) (m : Int) (W : World) (hs : S.size ≤ 2000) (hm : W.cell? ⟨0, 0, none⟩ = some (.int .i64 m)) (h : tokens (bytes S) = some []) :
    Calls Tryd.prog 10 #[.string S] W fun e w' => Below W.heap.size W w' ∧ ∃ p c : _, e = .returned (.tuple #[.slice p 0 c, .int .i64 0]) := by
  refine (scan_rows S m W hs hm).mono ?_
  rintro e w' ⟨hb, hcs⟩
  rcases hcs with ⟨hN, _⟩ | ⟨L, n, p, c, hL, hn, _, rfl, _⟩
  · rw [h] at hN; cases hN
  · rw [h] at hL; cases hL; cases hn
    exact ⟨hb, p, c, rfl⟩
/-- A text of one token, scanned. -/
theorem scan_one (S : ByteArray) (m : Int) (W : World) (hs : S.size ≤ 2000) (hm : W.cell? ⟨0, 0, none⟩ = some (.int .i64 m)) {q : Tok} (h : tokens (bytes S) = some [q]) :
    Calls Tryd.prog 10 #[.string S] W fun e w' => Below W.heap.size W w' ∧ ∃ g c : Nat, e = .returned (.tuple #[.slice (some ⟨g, 0, none⟩) 1 c, .int .i64 0]) ∧ g < w'.heap.size ∧ w'.cell? ⟨g, 0, none⟩ = some (.int .u8 (q.kind.toNat : Nat)) ∧ w'.cell? ⟨g, 1, none⟩ = some (.string ⟨q.text.toArray⟩) := by
  refine (scan_rows S m W hs hm).mono ?_
  rintro e w' ⟨hb, hcs⟩
  rcases hcs with ⟨hN, _⟩ | ⟨L, n, p, c, hL, hn, _, rfl, hat⟩
  · rw [h] at hN; cases hN
  · rw [h] at hL; cases hL; cases hn
    obtain ⟨g, rfl, hg, a0, a1, _, _⟩ := hat 0 q rfl
    rw [Nat.zero_mul] at a0
    rw [Nat.zero_mul, Nat.zero_add] at a1
    exact ⟨hb, g, c, rfl, hg, a0, a1⟩

set_option maxRecDepth 100000 in
set_option maxHeartbeats 16000000 in
theorem again_walk (s : ByteArray) (m : Int) (w : World) (hs : s.size ≤ 2000) (hm : w.cell? ⟨0, 0, none⟩ = some (.int .i64 m)) :
    Calls Tryd.prog 3 #[.string s] w fun e w' => e = .returned (.bool true) ∧ Below w.heap.size w w' := by
  have HM := Lib.hid hm
  have HW0 := Lib.hid (World.block_lt_of_cell? w ⟨0, 0, none⟩ hm)
  have HSH := Lib.hid (shown_true m w hm)
  have HSC := Lib.hid (fun (S : ByteArray) (W : World) h1 h2 => scan_rows S m W h1 h2)
  have HS0 := Lib.hid (fun (S : ByteArray) (W : World) h1 h2 h3 => scan_none S m W h1 h2 h3)
  have HS1 := Lib.hid (fun (S : ByteArray) (W : World) h1 h2 (q : Tok) h3 => scan_one S m W h1 h2 (q := q) h3)
  have HFI := Lib.hid (fun p T n c W h1 h2 h3 h4 h5 => fields_any p T n c m W h1 h2 h3 h4 h5)
  clear hm
  go_enter Tryd.func3, Tryd.ntmps3
  go_wp2_with fail
  refine HSH.out.mono ?_; rintro e w1 ⟨rfl, hb1⟩
  have HB1 := Lib.hid hb1
  have HM1 := Lib.hid ((hb1.cell (p := ⟨0, 0, none⟩) HW0.out).trans HM.out)
  clear hb1 HSH
  go_wp2_with fail
  refine (HSC.out s w1 hs HM1.out).mono ?_; rintro e w2 ⟨hb2, hcs⟩
  have HB2 := Lib.hid (HB1.out.step hb2 HB1.out.size)
  have HM2 := Lib.hid ((HB2.out.cell (p := ⟨0, 0, none⟩) HW0.out).trans HM.out)
  have HW2 := Lib.hid (show 0 < w2.heap.size from Nat.lt_of_lt_of_le HW0.out HB2.out.size)
  clear hb2
  rcases hcs with ⟨hN, p, c, rfl⟩ | ⟨L, n, p, c, hL, hn, hn2, rfl, hat⟩
  · go_wp2_with fail
    go_ret
    exact ⟨rfl, HB2.out⟩
  have HLT := Lib.hid hL; have HN := Lib.hid hn; have HAT := Lib.hid hat
  clear hL hn hat HB1 HM1
  go_wp2_with fail
  go_loopw [6, 7] (fun a i wr => ∃ k : Nat, i = .int .i64 k ∧ k ≤ n ∧ a = .int .i64 (lastHi 0 (L.take k) : Nat) ∧ Below w2.heap.size w2 wr) (fun _ i _ => n - (RowKit.intOf i).toNat)
  case atStart => exact ⟨0, rfl, Nat.zero_le _, rfl, Below.refl _ _⟩
  case round =>
    obtain ⟨k, rfl, hk, rfl, hBk⟩ := hrel
    have HBK := Lib.hid hBk
    clear hBk
    by_cases hlt : k < n
    · have hlt' : (k : Int) < n := by omega
      obtain ⟨x, hx⟩ : ∃ x, L[k]? = some x := ⟨_, List.getElem?_eq_getElem (by rw [HN.out]; exact hlt)⟩
      obtain ⟨g, rfl, hg, a0, a1, a2, a3⟩ := HAT.out k x hx
      obtain ⟨e1, e2, e3, e4, e5, q, e6, e7⟩ := token_place HLT.out hx
      rw [bytes_len] at e2
      rw [← bytes_cut] at e4 e6
      have HNEXT := Lib.hid e5
      have HTX := Lib.hid hx
      clear e5 hx
      obtain ⟨kk, hkk⟩ : ∃ kk : Nat, kk = x.kind.toNat := ⟨_, rfl⟩
      obtain ⟨XT, hXT⟩ : ∃ XT : ByteArray, XT = ⟨x.text.toArray⟩ := ⟨_, rfl⟩
      have hq1 : q.kind = x.kind := congrArg Prod.fst e7
      have hq2 : q.text = x.text := congrArg Prod.snd e7
      have HO := Lib.hid (fun W (h1 : Below w2.heap.size w2 W) => HS1.out (s.extract x.lo x.hi) W (by rw [ByteArray.size_extract]; omega) ((h1.cell (p := ⟨0, 0, none⟩) HW2.out).trans HM2.out) q e6)
      have HE := Lib.hid (fun W (h1 : Below w2.heap.size w2 W) => HS0.out (s.extract (lastHi 0 (L.take k)) x.lo) W (by rw [ByteArray.size_extract]; omega) ((h1.cell (p := ⟨0, 0, none⟩) HW2.out).trans HM2.out) e4)
      rw [hq1, hq2, ← hkk, ← hXT] at HO
      rw [← hkk] at a0
      rw [← hXT] at a1
      have HCC := Lib.hid (fun W (h1 : Below w2.heap.size w2 W) => And.intro ((h1.cell (p := ⟨g, k * 4, none⟩) hg).trans a0) (And.intro ((h1.cell (p := ⟨g, k * 4 + 1, none⟩) hg).trans a1) (And.intro ((h1.cell (p := ⟨g, k * 4 + 2, none⟩) hg).trans a2) ((h1.cell (p := ⟨g, k * 4 + 3, none⟩) hg).trans a3))))
      clear hkk hXT hq1 hq2 e4 e6 e7 a0 a1 a2 a3
      have HXH := Lib.hid (show ∀ hi : Nat, hi = x.hi → lastHi 0 (L.take (k + 1)) = hi from fun hi h => HNEXT.out.trans h.symm)
      generalize hla : lastHi 0 (L.take k) = la at e3 HE ⊢
      generalize hlo : x.lo = lo at e1 e3 HO HE HCC ⊢
      generalize hhi : x.hi = hi at e1 e2 HO HCC HNEXT ⊢
      clear hla hlo hhi HXH
      have f1 : (la : Int) ≤ lo := by omega
      have f2 : (lo : Int) < hi := by omega
      have f5 : (lo : Int) ≤ hi := by omega
      have f3 : (hi : Int) ≤ s.size := by omega
      have f4 : (lo : Int) ≤ s.size := by omega
      have d1 : decide (lo < la) = false := by simp; omega
      have d2 : decide (hi ≤ lo) = false := by simp; omega
      have d3 : decide (s.size < hi) = false := by simp; omega
      have HF := Lib.hid (And.intro e1 (And.intro e2 e3))
      clear e1 e2 e3
      obtain ⟨c0, c1, c2, c3⟩ := HCC.out wr HBK.out
      go_upto_region 11 with (fail)
      go_quiet (fail)
      have HB3 := Lib.hid (below_drewN HBK.out nq)
      clear c0 c1 c2 c3
      generalize wr.drewN nq = w3 at HB3 ⊢
      obtain ⟨c0, c1, c2, c3⟩ := HCC.out w3 HB3.out
      go_wp2_with fail
      refine (HE.out w3 HB3.out).mono ?_; rintro e w4 ⟨hb4, p4, c4, rfl⟩
      have HB4 := Lib.hid (HB3.out.step hb4 HB3.out.size)
      clear c0 c1 c2 c3 hb4
      go_upto_region 14 with (fail)
      have S0 : (w4.cell? ⟨g, k * 4 + 2, none⟩ = some (.int .i64 lo) ∧ w4.cell? ⟨g, k * 4 + 3, none⟩ = some (.int .i64 hi)) ∧ Below w4.heap.size w4 w4 := ⟨(HCC.out w4 HB4.out).2.2, Below.refl _ _⟩
      have HO4 := Lib.hid (fun W (h : Below w4.heap.size w4 W) => HO.out W (HB4.out.step h HB4.out.size))
      have HSTEP := Lib.hid (show ∀ W W', ((W.cell? ⟨g, k * 4 + 2, none⟩ = some (.int .i64 lo) ∧ W.cell? ⟨g, k * 4 + 3, none⟩ = some (.int .i64 hi)) ∧ Below w4.heap.size w4 W) → Below W.heap.size W W' → ((W'.cell? ⟨g, k * 4 + 2, none⟩ = some (.int .i64 lo) ∧ W'.cell? ⟨g, k * 4 + 3, none⟩ = some (.int .i64 hi)) ∧ Below w4.heap.size w4 W') from fun W W' h hb => ⟨(HCC.out W' (HB4.out.step (h.2.step hb h.2.size) HB4.out.size)).2.2, h.2.step hb h.2.size⟩)
      go_region_held3 (fun w' => (w'.cell? ⟨g, k * 4 + 2, none⟩ = some (.int .i64 lo) ∧ w'.cell? ⟨g, k * 4 + 3, none⟩ = some (.int .i64 hi)) ∧ Below w4.heap.size w4 w') (first | exact S1 | exact ⟨S0.1, S0.2.drew⟩)
        (first | (go_at_call 10; refine (HO4.out _ S0.2.drew).mono ?_; rintro e w5 ⟨hb5, g5, c5, rfl, hg5, b0, b1⟩; have S1 := HSTEP.out w4.drew w5 ⟨S0.1, S0.2.drew⟩ hb5))
      have HB5 := Lib.hid (HB4.out.step S1.2 HB4.out.size)
      clear S0 S1 HSTEP HO4 HO HE
      obtain ⟨c0, c1, c2, c3⟩ := HCC.out w5 HB5.out
      have q2 : ((kk : Int) != (kk : Int)) = false := by simp
      go_upto_region 15 with (fail)
      go_quiet (fail)
      have HB6 := Lib.hid (below_drewN HB5.out nq)
      generalize w5.drewN nq = w6 at HB6 ⊢
      clear c0 c1 c2 c3 b0 b1
      obtain ⟨c0, c1, c2, c3⟩ := HCC.out w6 HB6.out
      go_wp2_with fail
      go_roundw
      case rel => exact ⟨k + 1, by go_num, by omega, by rw [HNEXT.out], HB6.out⟩
      case measure => simp [RowKit.intOf]; omega
    · obtain rfl : k = n := by omega
      obtain ⟨FF, hF⟩ : ∃ FF : ByteArray, FF = ⟨(fieldsB L).toArray⟩ := ⟨_, rfl⟩
      have hFb : bytes FF = fieldsB L := by rw [hF]
      obtain ⟨K, hK, hKm⟩ := tokens_again HLT.out
      rw [← hFb] at hK
      have HK := Lib.hid hK; have HKM := Lib.hid hKm
      have HFF := Lib.hid (fun W (h1 : Below w2.heap.size w2 W) => by
        have := HFI.out p L k c W HN.out (by omega) ((HAT.out.step h1).off) (fun q hq => by have := tokens_small HLT.out q hq; rw [bytes_len] at this; omega) ((h1.cell (p := ⟨0, 0, none⟩) HW2.out).trans HM2.out)
        rw [← hF] at this
        exact this)
      clear hF hFb hK hKm
      go_wp2_with fail
      refine (HFF.out wr HBK.out).mono ?_; rintro e w3 ⟨rfl, hb3⟩
      have HB3 := Lib.hid (HBK.out.step hb3 HBK.out.size)
      clear hb3
      by_cases hF2 : FF.size ≤ 2000
      · have hF3 : (FF.size : Int) ≤ 2000 := by omega
        go_wp2_with fail
        refine (HSC.out FF w3 hF2 ((HB3.out.cell (p := ⟨0, 0, none⟩) HW2.out).trans HM2.out)).mono ?_; rintro e w4 ⟨hb4, hcs⟩
        rcases hcs with ⟨hN, _⟩ | ⟨K2, n2, p2, c2, hK2, hn2k, hn22, rfl, hat2⟩
        · rw [HK.out] at hN; cases hN
        rw [HK.out] at hK2; cases hK2
        have hnn : n2 = k := by
          have := congrArg List.length HKM.out
          rw [List.length_map, List.length_map, HN.out, hn2k] at this
          exact this
        subst hnn
        have HB4 := Lib.hid (HB3.out.step hb4 HB3.out.size)
        have HKN := Lib.hid hn2k; have HAT2 := Lib.hid hat2
        clear hn2k hat2 hb4
        go_wp2_with fail
        go_loopw [15] (fun i wr => ∃ k : Nat, i = .int .i64 k ∧ k ≤ n2 ∧ Below w4.heap.size w4 wr) (fun i _ => n2 - (RowKit.intOf i).toNat)
        case atStart => exact ⟨0, rfl, Nat.zero_le _, Below.refl _ _⟩
        case round =>
          obtain ⟨k, rfl, hk, hBk⟩ := hrel
          have HBQ := Lib.hid hBk
          clear hBk
          by_cases hlt : k < n2
          · have hlt' : (k : Int) < n2 := by omega
            obtain ⟨x, hx⟩ : ∃ x, L[k]? = some x := ⟨_, List.getElem?_eq_getElem (by rw [HN.out]; exact hlt)⟩
            obtain ⟨y, hy⟩ : ∃ y, K[k]? = some y := ⟨_, List.getElem?_eq_getElem (by rw [HKN.out]; exact hlt)⟩
            have hxy : kt y = kt x := by
              have := congrArg (·[k]?) HKM.out
              simp only [List.getElem?_map, hx, hy, Option.map_some, Option.some.injEq] at this
              exact this
            obtain ⟨g, rfl, hg, a0, a1, a2, a3⟩ := HAT.out k x hx
            obtain ⟨g', rfl, hg', b0, b1, b2, b3⟩ := HAT2.out k y hy
            have hq1 : y.kind = x.kind := congrArg Prod.fst hxy
            have hq2 : y.text = x.text := congrArg Prod.snd hxy
            rw [hq1] at b0
            rw [hq2] at b1
            have a0 := ((HB4.out.step HBQ.out HB4.out.size).cell (p := ⟨g, k * 4, none⟩) hg).trans a0
            have a1 := ((HB4.out.step HBQ.out HB4.out.size).cell (p := ⟨g, k * 4 + 1, none⟩) hg).trans a1
            have b0 := (HBQ.out.cell (p := ⟨g', k * 4, none⟩) hg').trans b0
            have b1 := (HBQ.out.cell (p := ⟨g', k * 4 + 1, none⟩) hg').trans b1
            clear hq1 hq2 hxy hx hy a2 a3 b2 b3
            generalize x.kind.toNat = kk at a0 b0
            generalize (⟨x.text.toArray⟩ : ByteArray) = XT at a1 b1
            have q2 : ((kk : Int) != (kk : Int)) = false := by simp
            go_upto_region 27 with (fail)
            go_quiet (fail)
            have HBR := Lib.hid (below_drewN HBQ.out nq)
            clear a0 a1 b0 b1
            generalize wr.drewN nq = w6 at HBR ⊢
            go_wp2_with fail
            go_roundw
            case rel => exact ⟨k + 1, by go_num, by omega, HBR.out⟩
            case measure => simp [RowKit.intOf]; omega
          · obtain rfl : k = n2 := by omega
            go_wp2_with fail
            go_ret
            exact ⟨rfl, HB2.out.step (HB4.out.step HBQ.out HB4.out.size) HB2.out.size⟩
      · have hF3 : (2000 : Int) < FF.size := by omega
        go_wp2_with fail
        go_ret
        exact ⟨rfl, HB2.out.step HB3.out HB2.out.size⟩

set_option maxRecDepth 100000 in
theorem again_early (s : ByteArray) (m : Int) (w : World) (h1 : (2000 : Int) < s.size) (hm : w.cell? ⟨0, 0, none⟩ = some (.int .i64 m)) :
    Calls Tryd.prog 3 #[.string s] w fun e w' => e = .returned (.bool true) ∧ Below w.heap.size w w' := by
  have HSH := Lib.hid (shown_true m w hm)
  clear hm
  go_enter Tryd.func3, Tryd.ntmps3
  go_wp2_with fail
  refine HSH.out.mono ?_; rintro e w1 ⟨rfl, hb1⟩
  have HB1 := Lib.hid hb1
  clear hb1 HSH
  go_wp2_with fail
  go_ret
  exact ⟨rfl, HB1.out⟩

theorem again_ok (s : ByteArray) (m : Int) (w : World) (hm : w.cell? ⟨0, 0, none⟩ = some (.int .i64 m)) :
    Calls Tryd.prog 3 #[.string s] w fun e w' => e = .returned (.bool true) ∧ Below w.heap.size w w' := by
  by_cases h : s.size ≤ 2000
  · exact again_walk s m w h hm
  · exact again_early s m w (by omega) hm

set_option maxRecDepth 100000 in
theorem again_lifted (os : Os) (started : os.Started) (H : Type) (enc : TypeId × Value → H) :
    ReturnsInHanded {} Tryd.checked os 3 .any (fun w args => (Rows.scanAgainSpec.pre enc Tryd.prog Tryd.f3 Rows.scanAgainRow.domain false w args ∧ laidMetH Tryd.prog [("unicode/utf8.acceptRanges", Rows.laid_unicode_utf8_acceptRanges), ("unicode/utf8.first", Rows.laid_unicode_utf8_first)] w) ∧ sizedMet enc Tryd.prog Tryd.f3 (OpenSpec.ofChange Rows.scanAgainSpec) false w args) (Rows.scanAgainSpec.post enc Tryd.prog Tryd.f3 false true false false) := by
  refine handed_laid (C := Tryd.checked) (X := fun w _ => laidMetH Tryd.prog [("unicode/utf8.acceptRanges", Rows.laid_unicode_utf8_acceptRanges), ("unicode/utf8.first", Rows.laid_unicode_utf8_first)] w) (fun _ _ _ hh h => h.of_heap hh) own started (by kernel_rfl) Tryd.func3
    (ChangeSpec.witness_shaped (enc := enc) (C := Tryd.checked) (os := os) (X := fun w _ => laidMetH Tryd.prog [("unicode/utf8.acceptRanges", Rows.laid_unicode_utf8_acceptRanges), ("unicode/utf8.first", Rows.laid_unicode_utf8_first)] w) false (World.laidAll Tryd.prog os [("unicode/utf8.acceptRanges", Rows.laid_unicode_utf8_acceptRanges), ("unicode/utf8.first", Rows.laid_unicode_utf8_first)]) #[.string { data := #[] }] 8 (World.laidAll_os _ _ _) (World.shaped_of_ZipB (by kernel_rfl) (by kernel_rfl)) (by kernel_rfl) (by kernel_rfl) (by kernel_rfl)
      (by rw [MakeChecks.laidMetH_plain _ _ _ (by kernel_rfl)]; exact laidMet_laidAll _ (by kernel_rfl) (by kernel_rfl))) ?_
  intro W base args ds gs before hval0 hW hsz0 hsh hL
  obtain ⟨m, hm⟩ : ∃ m, W.cell? ⟨0, 0, none⟩ = some (.int .i64 m) := Tryd.laysM143.s1_3 W hsh
  have hsz : (DataW.weightsEach Tryd.prog (Tryd.f3.params.toList ++ Rows.scanAgainSpec.plain.varTypes Tryd.prog) (ds ++ gs)).all (· ≤ reachBytes) = true := hsz0
  clear hsz0
  have hval : ∀ (j : Nat) t v, Tryd.f3.params[j]? = some t → args[j]? = some v → Value.okWide Tryd.prog W .any base t v := hval0
  have hW' := hW
  obtain ⟨p, q, hA0, hV, rfl, _, _⟩ := hW
  have hA : DataW.TrodAll enc Tryd.prog W 0 (fun _ => true) true Tryd.f3.params.toList args.toList ds p := hA0
  rw [Tryd.params3] at hA hval hsz
  obtain ⟨v0, d0, rfl, rfl, h0⟩ := trodAll_one hA
  obtain ⟨rfl, rfl⟩ := trodVars_none hV
  obtain ⟨s, rfl, rfl, rfl, hl_s⟩ := Go.ChangeMaps.open_string Tryd.underlying9 (hval 0 9 v0 rfl rfl) h0
  have hz_s : s.size ≤ 140737488351232 := by have := sized_string hsz (j := 0) (t := 9) rfl rfl; rw [size_list] at this; exact this
  refine (again_ok s m W hm).mono fun e W' ⟨he, hb⟩ => ?_
  subst he
  exact ⟨_, rfl, law_shut laidOut (by kernel_rfl) (by kernel_rfl) Tryd.underlying4 rfl hW' rfl hb⟩

theorem again_holds : Rows.ScanAgainSaid :=
  OpenClaim.holds_of_wide 3 Tryd.f3 rfl rfl rfl rfl rfl rfl rfl ⟨rfl, rfl, rfl, rfl, rfl⟩ rfl rfl rfl rfl rfl (by kernel_rfl) Tryd.func3 (by kernel_rfl)
    (of_decide_eq_true (by kernel_rfl)) (by unfold Func.isWrapper; rw [if_neg (of_decide_eq_false (by kernel_rfl))]; exact ⟨rfl, rfl⟩)
    (fun os started H enc _ => again_lifted os started H enc)

theorem again_card : Rows.ScanAgainCardSaid :=
  Claim7.holds_tied_plain_at .later [] [.data, .pinned] true _ false again_holds (fun _ h => by cases h) (by kernel_rfl) (fun _ h => by cases h) scanAgain_row_tie rfl ⟨rfl, rfl⟩ (by kernel_rfl) rfl
    (fun f fn hf hfn => by
      obtain rfl : f = 3 := Option.some.inj ((show Tryd.prog.funcNamed "taxirank/taxiranklaw3.ScanAgain" = some 3 by kernel_rfl).symm.trans hf) |>.symm
      obtain rfl : fn = Tryd.f3 := (Option.some.inj (Tryd.func3.symm.trans hfn)).symm
      exact ⟨by kernel_rfl, fun j t ht => by
        rw [Tryd.params3] at ht
        have hm : t ∈ [9] := by simpa using Array.mem_of_getElem? ht
        have hall : ([9].all fun u => !Tryd.prog.wantsStandIn u) = true := by kernel_rfl
        exact (show Tryd.prog.wantsStandIn t = false by simpa using List.all_eq_true.1 hall t hm)⟩)
    (by kernel_rfl)
end Go.Proofs.YtckimeikiakfcaaDoor
