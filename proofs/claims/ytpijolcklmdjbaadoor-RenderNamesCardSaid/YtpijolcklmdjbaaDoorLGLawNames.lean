/- A name in full is taken as the name, whatever words its parts are: RenderNames answers true, whatever text it is called with, and leaves what was there as it was. (Over the listed variables, tied to the program's text.) -/
import Derived.Test.YtpijolcklmdjbaaDoorZ20
import Derived.Test.YtpijolcklmdjbaaDoorZ12
namespace Go.Proofs.YtpijolcklmdjbaaDoor
open Go.RowKit Go.Lib Go.WideShapes Go.ChangeShapes Go.ChangeAt Go.Joins

theorem count_next {l : Bs} {j : Nat} (h : j < l.length) : (l.take (j + 1)).count 46 = (l.take j).count 46 + if l[j] = 46 then 1 else 0 := by
  rw [List.take_succ_eq_append_getElem h, List.count_append]
  by_cases e : l[j] = 46
  · rw [if_pos e, e]; rfl
  · have h0 : [l[j]].count 46 = 0 := List.count_eq_zero_of_not_mem (fun hm => e (List.mem_singleton.1 hm).symm)
    rw [if_neg e, h0]
set_option maxRecDepth 100000 in
set_option maxHeartbeats 16000000 in
theorem names_walk (s : ByteArray) (m : Int) (w : World) (zs : s.size ≤ 140737488351232) (hm : w.cell? ⟨1, 0, none⟩ = some (.int .i64 m)) (hT : TakenAt w) :
    Calls Tryd.prog 5 #[.string s] w fun e w' => e = .returned (.bool true) ∧ Below w.heap.size w w' := by
  have HW0 := Lib.hid (World.block_lt_of_cell? w ⟨1, 0, none⟩ hm)
  have HM := Lib.hid hm
  have HMW := Lib.hid (fun W (h : Below w.heap.size w W) => (h.cell (p := ⟨1, 0, none⟩) HW0.out).trans HM.out)
  have HT := Lib.hid hT
  have HK := Lib.hid (fun p T n c W h1 h2 h3 h4 h5 => take_any p T n c m W h1 h2 h3 h4 h5)
  have HSC := Lib.hid (fun (S : ByteArray) (W : World) h1 h2 => scan_rows S m W h1 h2)
  clear hm hT
  go_enter Tryd.func5, Tryd.ntmps5
  go_wp2_with fail
  refine (shown13 m w HM.out HT.out).mono ?_; rintro e w1 ⟨rfl, hb⟩
  have P1 := Lib.hid hb
  clear hb
  by_cases hbig : 100 < s.size
  · have hbig' : (100 : Int) < s.size := by omega
    go_wp2_with fail
    go_ret
    exact ⟨rfl, P1.out⟩
  have hbig' : ¬ (100 : Int) < s.size := by omega
  have hs : s.size ≤ 100 := by omega
  have HG := Lib.hid (fun W hm => good_any s m W (by omega) hm)
  clear hbig
  go_wp2_with fail
  refine (HG.out w1 (HMW.out _ P1.out)).mono ?_; rintro e w2 ⟨rfl, hb⟩
  have P2 := Lib.hid (P1.out.step (below_drew hb) P1.out.size)
  clear hb
  cases hg : goodB (bytes s) with
  | false =>
    go_wp2_with fail
    go_ret
    exact ⟨rfl, P2.out⟩
  | true =>
    obtain ⟨L0, hL0, hTK, hLN⟩ := full_took hg
    have hfl := full_length (bytes s)
    rw [bytes_len] at hfl
    have HF := Lib.hid (fun W hm hT => full_any s m W hg hm hT)
    obtain ⟨F, hF⟩ : ∃ F : ByteArray, F = ⟨(fullB (bytes s)).toArray⟩ := ⟨_, rfl⟩
    have hFs : F.size ≤ 204 := by rw [hF, bsize]; omega
    have HTT := Lib.hid (show tokens (bytes (F ++ { data := #[32, 61, 32, 49] })) = some L0 by
      rw [hF, show bytes ((⟨(fullB (bytes s)).toArray⟩ : ByteArray) ++ { data := #[32, 61, 32, 49] }) = fullB (bytes s) ++ [32, 61, 32, 49] by simp [bytes]]
      exact hL0)
    rw [← hF] at HF
    have hcs : (bytes s).count 46 ≤ 100 := Nat.le_trans List.count_le_length (by rw [bytes_len]; exact hs)
    obtain ⟨q, hq⟩ : ∃ q, q = (bytes s).count 46 := ⟨_, rfl⟩
    rw [← hq] at hTK hLN hcs
    have HQ := Lib.hid hq
    have HTK := Lib.hid hTK; have HLN := Lib.hid hLN
    have HCS := Lib.hid hcs
    have HSM := Lib.hid (tokens_small HTT.out)
    clear hg hfl hL0 hTK hLN hF hcs hq
    go_wp2_with fail
    refine (HF.out w2 (HMW.out _ P2.out) (HT.out.step P2.out)).mono ?_; rintro e w3 ⟨rfl, hb⟩
    have P3 := Lib.hid (P2.out.step hb P2.out.size)
    clear hb
    go_wp2_with fail
    refine (HSC.out _ w3 (by simp only [ByteArray.size_append]; show F.size + 4 ≤ 2000; omega) (HMW.out _ P3.out)).mono ?_; rintro e w4 ⟨hb4, hcs1⟩
    have P4 := Lib.hid (P3.out.step hb4 P3.out.size)
    clear hb4
    rcases hcs1 with ⟨hno, p1, c1, rfl⟩ | ⟨L1, n1, p1, c1, hT1, hL1, hn1, rfl, hat1⟩
    · exact absurd (hno.symm.trans HTT.out) (by simp)
    · obtain rfl : L1 = L0 := Option.some.inj (hT1.symm.trans HTT.out)
      have HA1 := Lib.hid hat1.off
      have HL1 := Lib.hid hL1
      have HSM2 := Lib.hid (show ∀ q ∈ L1, q.text.length ≤ 2000 from fun q hq => Nat.le_trans (HSM.out q hq) (by rw [bytes_len, ByteArray.size_append]; show F.size + 4 ≤ 2000; omega))
      clear hT1 hat1 hL1
      have hn1' : n1 ≤ 100000 := by have := HL1.out; have := HLN.out; have := HCS.out; omega
      go_wp2_with fail
      refine (HK.out p1 L1 n1 c1 w4 HL1.out hn1' HA1.out HSM2.out (HMW.out _ P4.out)).mono ?_; rintro e w5 ⟨rfl, hb5⟩
      have P5 := Lib.hid (P4.out.step hb5 P4.out.size)
      have HNN := Lib.hid (show (n1 : Int) = (1 + 2 * (q : Int)) + 2 by have := HL1.out; have := HLN.out; omega)
      rw [HTK.out]
      have HSS := Lib.hid (show (⟨(bytes s).toArray⟩ : ByteArray) = s by simp [bytes])
      simp only [HSS.out]
      clear hb5
      go_wp2_with fail
      go_loopw [8, 9] (fun o i wr => ∃ j : Nat, j ≤ s.size ∧ i = .int .i64 j ∧ o = .int .i64 (((bytes s).take j).count 46 : Nat) ∧ wr = w5) (fun _ i _ => s.size - (RowKit.intOf i).toNat)
      case atStart => exact ⟨0, Nat.zero_le _, rfl, rfl, rfl⟩
      case round =>
        obtain ⟨j, hj, rfl, rfl, hwr⟩ := hrel
        subst hwr
        by_cases hlt : j < s.size
        · have hlt' : (j : Int) < s.size := by omega
          have hjl : j < (bytes s).length := by rw [blen]; exact hlt
          have HN := Lib.hid (count_next hjl)
          have hck : ((bytes s).take j).count 46 ≤ 100 := Nat.le_trans List.count_le_length (by rw [List.length_take, bytes_len]; omega)
          generalize ((bytes s).take j).count 46 = r at HN hck ⊢
          by_cases hc : s[j] = 46
          · have hc2 : ((s[j].toNat : Int) == 46) = true := by rw [hc]; rfl
            have HN := Lib.hid (show ((bytes s).take (j + 1)).count 46 = r + 1 by rw [HN.out]; exact congrArg (r + ·) (if_pos hc))
            clear hc
            go_wp2_with fail
            go_roundw
            case measure => first | omega | (simp [RowKit.intOf]; omega)
            case rel => exact ⟨j + 1, by omega, by go_num, (by rw [HN.out]; go_num), (by trivial)⟩
          · have hc2 : ((s[j].toNat : Int) == 46) = false := by
              rw [beq_eq_false_iff_ne]
              intro e
              exact hc (UInt8.toNat_inj.1 (show s[j].toNat = (46 : UInt8).toNat from by have : ((46 : UInt8).toNat : Int) = 46 := rfl; omega))
            have HN := Lib.hid (show ((bytes s).take (j + 1)).count 46 = r by rw [HN.out]; exact congrArg (r + ·) (if_neg hc))
            clear hc
            go_wp2_with fail
            go_roundw
            case measure => first | omega | (simp [RowKit.intOf]; omega)
            case rel => exact ⟨j + 1, by omega, by go_num, (by rw [HN.out]), (by trivial)⟩
        · obtain rfl : j = s.size := by omega
          have HOK := Lib.hid (show (bytes s).take s.size = bytes s by rw [← blen, List.take_length])
          rw [HOK.out, ← HQ.out]
          have hcc := HCS.out
          have hnn := HNN.out
          have a1 : IntKind.i64.wrap (2 * (q : Int)) = 2 * (q : Int) := IntWalk.i64_in _ (by omega)
          have a2 : IntKind.i64.wrap (1 + 2 * (q : Int)) = 1 + 2 * (q : Int) := IntWalk.i64_in _ (by omega)
          have a3 : IntKind.i64.wrap (1 + 2 * (q : Int) + 2) = 1 + 2 * (q : Int) + 2 := IntWalk.i64_in _ (by omega)
          have a4 : (((1 + 2 * q : Nat) : Int)) = 1 + 2 * (q : Int) := by omega
          go_wp2_with fail
          go_ret
          exact ⟨rfl, P5.out⟩
set_option maxRecDepth 100000 in
theorem names_lifted (os : Os) (started : os.Started) (H : Type) (enc : TypeId × Value → H) :
    ReturnsInHanded {} Tryd.checked os 5 .any (fun w args => (Rows.renderNamesSpec.pre enc Tryd.prog Tryd.f5 Rows.renderNamesRow.domain false w args ∧ laidMetH Tryd.prog [("unicode/utf8.acceptRanges", Rows.laid_unicode_utf8_acceptRanges), ("taxirank/names.taken", Rows.laid_taxirank_names_taken), ("unicode/utf8.first", Rows.laid_unicode_utf8_first)] w) ∧ sizedMet enc Tryd.prog Tryd.f5 (OpenSpec.ofChange Rows.renderNamesSpec) false w args) (Rows.renderNamesSpec.post enc Tryd.prog Tryd.f5 false true false false) := by
  refine handed_laid (C := Tryd.checked) (X := fun w _ => laidMetH Tryd.prog [("unicode/utf8.acceptRanges", Rows.laid_unicode_utf8_acceptRanges), ("taxirank/names.taken", Rows.laid_taxirank_names_taken), ("unicode/utf8.first", Rows.laid_unicode_utf8_first)] w) (fun _ _ _ hh h => h.of_heap hh) own started (by kernel_rfl) Tryd.func5
    (ChangeSpec.witness_shaped (enc := enc) (C := Tryd.checked) (os := os) (X := fun w _ => laidMetH Tryd.prog [("unicode/utf8.acceptRanges", Rows.laid_unicode_utf8_acceptRanges), ("taxirank/names.taken", Rows.laid_taxirank_names_taken), ("unicode/utf8.first", Rows.laid_unicode_utf8_first)] w) false (World.laidAll Tryd.prog os [("unicode/utf8.acceptRanges", Rows.laid_unicode_utf8_acceptRanges), ("taxirank/names.taken", Rows.laid_taxirank_names_taken), ("unicode/utf8.first", Rows.laid_unicode_utf8_first)]) #[.string { data := #[] }] 8 (World.laidAll_os _ _ _) (World.shaped_of_ZipB (by kernel_rfl) (by kernel_rfl)) (by kernel_rfl) (by kernel_rfl) (by kernel_rfl)
      (by rw [MakeChecks.laidMetH_plain _ _ _ (by kernel_rfl)]; exact laidMet_laidAll _ (by kernel_rfl) (by kernel_rfl))) ?_
  intro W base args ds gs before hval0 hW hsz0 hsh hL
  obtain ⟨m, hm⟩ : ∃ m, W.cell? ⟨1, 0, none⟩ = some (.int .i64 m) := Tryd.laysM143.s1_3 W hsh
  have hT := taken_of_laid hL
  have hsz : (DataW.weightsEach Tryd.prog (Tryd.f5.params.toList ++ Rows.renderNamesSpec.plain.varTypes Tryd.prog) (ds ++ gs)).all (· ≤ reachBytes) = true := hsz0
  clear hsz0
  have hval : ∀ (j : Nat) t v, Tryd.f5.params[j]? = some t → args[j]? = some v → Value.okWide Tryd.prog W .any base t v := hval0
  have hW' := hW
  obtain ⟨p, q, hA0, hV, rfl, _, _⟩ := hW
  have hA : DataW.TrodAll enc Tryd.prog W 0 (fun _ => true) true Tryd.f5.params.toList args.toList ds p := hA0
  rw [Tryd.params5] at hA hval hsz
  obtain ⟨v0, d0, rfl, rfl, h0⟩ := trodAll_one hA
  obtain ⟨rfl, rfl⟩ := trodVars_none hV
  obtain ⟨s, rfl, rfl, rfl, hl_s⟩ := Go.ChangeMaps.open_string Tryd.underlying9 (hval 0 9 v0 rfl rfl) h0
  have hz_s : s.size ≤ 140737488351232 := by have := sized_string hsz (j := 0) (t := 9) rfl rfl; rw [size_listG] at this; exact this
  refine (names_walk s m W hz_s hm hT).mono fun e W' ⟨he, hb⟩ => ?_
  subst he
  exact ⟨_, rfl, law_shut laidOut (by kernel_rfl) (by kernel_rfl) Tryd.underlying4 rfl hW' rfl hb⟩

theorem names_holds : Rows.RenderNamesSaid :=
  OpenClaim.holds_of_wide 5 Tryd.f5 rfl rfl rfl rfl rfl rfl rfl ⟨rfl, rfl, rfl, rfl, rfl⟩ rfl rfl rfl rfl rfl (by kernel_rfl) Tryd.func5 (by kernel_rfl)
    (of_decide_eq_true (by kernel_rfl)) (by unfold Func.isWrapper; rw [if_neg (of_decide_eq_false (by kernel_rfl))]; exact ⟨rfl, rfl⟩)
    (fun os started H enc _ => names_lifted os started H enc)

theorem names_card : Rows.RenderNamesCardSaid :=
  Claim7.holds_tied_plain_at .later [] [.data, .data, .pinned] true _ false names_holds (fun _ h => by cases h) (by kernel_rfl) (fun _ h => by cases h) renderNames_row_tie rfl ⟨rfl, rfl⟩ (by kernel_rfl) rfl
    (fun f fn hf hfn => by
      obtain rfl : f = 5 := Option.some.inj ((show Tryd.prog.funcNamed "taxirank/taxiranklaw13.RenderNames" = some 5 by kernel_rfl).symm.trans hf) |>.symm
      obtain rfl : fn = Tryd.f5 := (Option.some.inj (Tryd.func5.symm.trans hfn)).symm
      exact ⟨by kernel_rfl, fun j t ht => by
        rw [Tryd.params5] at ht
        have hm : t ∈ [9] := by simpa using Array.mem_of_getElem? ht
        have hall : ([9].all fun u => !Tryd.prog.wantsStandIn u) = true := by kernel_rfl
        exact (show Tryd.prog.wantsStandIn t = false by simpa using List.all_eq_true.1 hall t hm)⟩)
    (by kernel_rfl)
end Go.Proofs.YtpijolcklmdjbaaDoor
