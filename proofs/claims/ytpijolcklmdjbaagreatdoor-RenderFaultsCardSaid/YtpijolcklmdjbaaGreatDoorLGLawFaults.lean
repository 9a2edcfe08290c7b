/- An error is one message, of two fields, that says its code: RenderFaults answers true, whatever code it is called with, and leaves what was there as it was. (Over the listed variables, tied to the program's text.) -/
import Derived.Test.YtpijolcklmdjbaaGreatDoorZ21
import Derived.Test.YtpijolcklmdjbaaGreatDoorZ30
import Derived.Test.YtpijolcklmdjbaaGreatDoorZ31
import Derived.Test.YtpijolcklmdjbaaGreatDoorZ38
namespace Go.Proofs.YtpijolcklmdjbaaGreatDoor
open Go.RowKit Go.Lib Go.WideShapes Go.ChangeShapes Go.ChangeAt Go.Joins

set_option maxRecDepth 100000 in
set_option maxHeartbeats 16000000 in
theorem faults_walk (s : ByteArray) (m : Int) (w : World) (zs : s.size ≤ 140737488351232) (hm : w.cell? ⟨2, 0, none⟩ = some (.int .i64 m)) (hT : TakenAt w) :
    Calls Tryz.prog 5 #[.string s] w fun e w' => e = .returned (.bool true) ∧ Below w.heap.size w w' := by
  have HM := Lib.hid hm
  have HT := Lib.hid hT
  clear hm hT
  go_enter Tryz.func5, Tryz.ntmps5
  go_wp2_with fail
  refine (shown13 m w HM.out HT.out).mono ?_; rintro e w1 ⟨rfl, hb⟩
  have P1 := Lib.hid hb
  clear hb
  by_cases hbig : 3000 < s.size
  · have hbig' : (3000 : Int) < s.size := by omega
    go_wp2_with fail
    go_ret
    exact ⟨rfl, P1.out⟩
  have hbig' : ¬ (3000 : Int) < s.size := by omega
  have hs : s.size ≤ 3000 := by omega
  clear hbig
  go_wp2_with fail
  refine (fault_any s w1 hs).mono ?_; rintro e w2 ⟨rfl, hb⟩
  have P2 := Lib.hid (P1.out.step hb P1.out.size)
  clear hb
  obtain ⟨F, hF⟩ : ∃ F, F = faultS s := ⟨_, rfl⟩
  rw [← hF]
  have HF := Lib.hid hF
  clear hF
  go_wp2_with fail
  go_loopg [5] s.size (fun g v wr => ∃ k : Nat, v = .int .i64 k ∧ k ≤ s.size ∧ g = s.size - k ∧ wr = w2 ∧ ∀ i : Nat, i < k → (bytes s)[i]? ≠ some 0)
  case atStart => exact ⟨0, rfl, Nat.zero_le _, rfl, rfl, fun i h => absurd h (Nat.not_lt_zero _)⟩
  case round =>
    obtain ⟨k, rfl, hk, hg, rfl, ho⟩ := hrel
    have HO := Lib.hid ho; have HGK := Lib.hid hg
    clear ho hg
    by_cases hlt : k < s.size
    · have hlt' : (k : Int) < s.size := by omega
      have hgx : (bytes s)[k]? = some s[k] := by
        rw [List.getElem?_eq_getElem (by rw [bytes_len]; exact hlt)]; rfl
      by_cases hc : s[k] = 0
      · have hc2 : ((s[k].toNat : Int) == 0) = true := by rw [hc]; rfl
        have hFE : F = { data := #[] } := by rw [HF.out]; unfold faultS; rw [if_pos (List.mem_of_getElem? (hgx.trans (congrArg some hc)))]
        subst hFE
        clear hc hgx
        go_wp2_with fail
        go_ret
        exact ⟨rfl, P2.out⟩
      · have hc2 : ((s[k].toNat : Int) == 0) = false := by
          rw [beq_eq_false_iff_ne]
          intro e
          exact hc (UInt8.toNat_inj.1 (show s[k].toNat = (0 : UInt8).toNat from by have : ((0 : UInt8).toNat : Int) = 0 := rfl; omega))
        have HN := Lib.hid (show ∀ i : Nat, i < k + 1 → (bytes s)[i]? ≠ some 0 from fun i hi => by
          rcases Nat.lt_succ_iff_lt_or_eq.1 hi with h | rfl
          · exact HO.out i h
          · rw [hgx]; exact fun e => hc (Option.some.inj e))
        clear hc hgx
        go_wp2_with fail
        go_roundg (s.size - (k + 1))
        case measure => have := HGK.out; omega
        case rel => exact ⟨k + 1, by go_num, by omega, rfl, rfl, HN.out⟩
    · obtain rfl : k = s.size := by omega
      have hno : (0 : UInt8) ∉ bytes s := fun hm => by
        obtain ⟨i, hi, he⟩ := List.mem_iff_getElem.1 hm
        exact HO.out i (by rw [bytes_len] at hi; exact hi) (by rw [List.getElem?_eq_getElem hi, he])
      have hBl : (faultB (bytes s)).length ≤ 3010 := by rw [faultB_length, bytes_len]; omega
      have HR := Lib.hid (show readD true 69 (faultB (bytes s)) = some ([g_error, bytes s], [2, 83, 67]) by unfold readD; rw [if_neg (by omega)]; exact fault_read hno)
      have HFP := Lib.hid (show F = packB 69 ⟨(faultB (bytes s)).toArray⟩ by rw [HF.out]; unfold faultS; rw [if_neg hno])
      have HTA := Lib.hid (fun W => take_text 69 (by decide) ⟨(faultB (bytes s)).toArray⟩ (by rw [bsize]; omega) W)
      have HDE := Lib.hid (fun W => decode_any W true 69 (faultB (bytes s)) (by omega))
      rw [HR.out] at HDE
      generalize faultB (bytes s) = B at HFP HTA HDE
      clear HR hBl hno HO HGK
      obtain rfl := HFP.out
      go_wp2_with fail
      refine (HTA.out _).mono ?_; rintro e w3 ⟨rfl, hb⟩
      have P3 := Lib.hid (P2.out.step hb P2.out.size)
      clear hb
      go_wp2_with fail
      refine (HDE.out _).mono ?_; rintro e w4 ⟨tv, nv, rfl, hT4, hN4, hb⟩
      have P4 := Lib.hid ((P3.out.alloc P3.out.size (.cells #[.int .u8 69, .string ⟨B.toArray⟩] 33)).step hb (by rw [World.size_alloc]; exact Nat.le_succ_of_le P3.out.size))
      have HT4 := own_textsIn hT4
      have HN4 := own_numsIn hN4
      obtain ⟨ta, tc, rfl⟩ := ownsRow_form hT4
      obtain ⟨na, nc, rfl⟩ := ownsRow_form hN4
      obtain ⟨_, _, _, htv, _, htc, htc2, hTc⟩ := HT4
      obtain ⟨_, _, _, hnv, _, hnc, hnc2, hNc⟩ := HN4
      injection htv with e1 e2 e3
      injection hnv with f1 f2 f3
      subst e1 e2 e3 f1 f2 f3
      rcases hTc with hTc | ⟨gt, ot, rfl, hgt, hTc⟩
      · cases hTc
      rcases hNc with hNc | ⟨gn, on, rfl, hgn, hNc⟩
      · cases hNc
      have t0 := hTc 0 _ rfl
      rw [Nat.add_zero] at t0
      have t1 := hTc 1 _ rfl
      have n1 := hNc 1 _ rfl
      have n2 := hNc 2 _ rfl
      rw [show (⟨(bytes s).toArray⟩ : ByteArray) = s from by simp [bytes]] at t1
      rw [show (⟨g_error.toArray⟩ : ByteArray) = { data := #[69, 82, 82, 79, 82] } from rfl] at t0
      clear hT4 hN4 hb hTc hNc HTA HDE HFP
      simp only [List.length_cons, List.length_nil] at htc hnc ⊢
      have htc' : (2 : Int) ≤ tc := by omega
      have hnc' : (3 : Int) ≤ nc := by omega
      go_wp2_with fail
      go_ret
      exact ⟨rfl, P4.out.alloc P4.out.size _⟩
set_option maxRecDepth 100000 in
theorem faults_lifted (os : Os) (started : os.Started) (H : Type) (enc : TypeId × Value → H) :
    ReturnsInHanded {} Tryz.checked os 5 .any (fun w args => (Rows.renderFaultsSpec.pre enc Tryz.prog Tryz.f5 Rows.renderFaultsRow.domain false w args ∧ laidMetH Tryz.prog [("unicode/utf8.acceptRanges", Rows.laid_unicode_utf8_acceptRanges), ("taxirank/names.taken", Rows.laid_taxirank_names_taken), ("unicode/utf8.first", Rows.laid_unicode_utf8_first)] w) ∧ sizedMet enc Tryz.prog Tryz.f5 (OpenSpec.ofChange Rows.renderFaultsSpec) false w args) (Rows.renderFaultsSpec.post enc Tryz.prog Tryz.f5 false true false false) := by
  refine handed_laid (C := Tryz.checked) (X := fun w _ => laidMetH Tryz.prog [("unicode/utf8.acceptRanges", Rows.laid_unicode_utf8_acceptRanges), ("taxirank/names.taken", Rows.laid_taxirank_names_taken), ("unicode/utf8.first", Rows.laid_unicode_utf8_first)] w) (fun _ _ _ hh h => h.of_heap hh) own started (by kernel_rfl) Tryz.func5
    (ChangeSpec.witness_shaped (enc := enc) (C := Tryz.checked) (os := os) (X := fun w _ => laidMetH Tryz.prog [("unicode/utf8.acceptRanges", Rows.laid_unicode_utf8_acceptRanges), ("taxirank/names.taken", Rows.laid_taxirank_names_taken), ("unicode/utf8.first", Rows.laid_unicode_utf8_first)] w) false (World.laidAll Tryz.prog os [("unicode/utf8.acceptRanges", Rows.laid_unicode_utf8_acceptRanges), ("taxirank/names.taken", Rows.laid_taxirank_names_taken), ("unicode/utf8.first", Rows.laid_unicode_utf8_first)]) #[.string { data := #[] }] 8 (World.laidAll_os _ _ _) (World.shaped_of_ZipB (by kernel_rfl) (by kernel_rfl)) (by kernel_rfl) (by kernel_rfl) (by kernel_rfl)
      (by rw [MakeChecks.laidMetH_plain _ _ _ (by kernel_rfl)]; exact laidMet_laidAll _ (by kernel_rfl) (by kernel_rfl))) ?_
  intro W base args ds gs before hval0 hW hsz0 hsh hL
  obtain ⟨m, hm⟩ : ∃ m, W.cell? ⟨2, 0, none⟩ = some (.int .i64 m) := Tryz.laysM143.s1_3 W hsh
  have hT := taken_of_laid hL
  have hsz : (DataW.weightsEach Tryz.prog (Tryz.f5.params.toList ++ Rows.renderFaultsSpec.plain.varTypes Tryz.prog) (ds ++ gs)).all (· ≤ reachBytes) = true := hsz0
  clear hsz0
  have hval : ∀ (j : Nat) t v, Tryz.f5.params[j]? = some t → args[j]? = some v → Value.okWide Tryz.prog W .any base t v := hval0
  have hW' := hW
  obtain ⟨p, q, hA0, hV, rfl, _, _⟩ := hW
  have hA : DataW.TrodAll enc Tryz.prog W 0 (fun _ => true) true Tryz.f5.params.toList args.toList ds p := hA0
  rw [Tryz.params5] at hA hval hsz
  obtain ⟨v0, d0, rfl, rfl, h0⟩ := trodAll_one hA
  obtain ⟨rfl, rfl⟩ := trodVars_none hV
  obtain ⟨s, rfl, rfl, rfl, hl_s⟩ := Go.ChangeMaps.open_string Tryz.underlying9 (hval 0 9 v0 rfl rfl) h0
  have hz_s : s.size ≤ 140737488351232 := by have := sized_string hsz (j := 0) (t := 9) rfl rfl; rw [size_listG] at this; exact this
  refine (faults_walk s m W hz_s hm hT).mono fun e W' ⟨he, hb⟩ => ?_
  subst he
  exact ⟨_, rfl, law_shut laidOut (by kernel_rfl) (by kernel_rfl) Tryz.underlying4 rfl hW' rfl hb⟩

theorem faults_holds : Rows.RenderFaultsSaid :=
  OpenClaim.holds_of_wide 5 Tryz.f5 rfl rfl rfl rfl rfl rfl rfl ⟨rfl, rfl, rfl, rfl, rfl⟩ rfl rfl rfl rfl rfl (by kernel_rfl) Tryz.func5 (by kernel_rfl)
    (of_decide_eq_true (by kernel_rfl)) (by unfold Func.isWrapper; rw [if_neg (of_decide_eq_false (by kernel_rfl))]; exact ⟨rfl, rfl⟩)
    (fun os started H enc _ => faults_lifted os started H enc)

theorem faults_card : Rows.RenderFaultsCardSaid :=
  Claim7.holds_tied_plain_at .later [] [.data, .data, .pinned] true _ false faults_holds (fun _ h => by cases h) (by kernel_rfl) (fun _ h => by cases h) renderFaults_row_tie rfl ⟨rfl, rfl⟩ (by kernel_rfl) rfl
    (fun f fn hf hfn => by
      obtain rfl : f = 5 := Option.some.inj ((show Tryz.prog.funcNamed "taxirank/taxiranklaw13.RenderFaults" = some 5 by kernel_rfl).symm.trans hf) |>.symm
      obtain rfl : fn = Tryz.f5 := (Option.some.inj (Tryz.func5.symm.trans hfn)).symm
      exact ⟨by kernel_rfl, fun j t ht => by
        rw [Tryz.params5] at ht
        have hm : t ∈ [9] := by simpa using Array.mem_of_getElem? ht
        have hall : ([9].all fun u => !Tryz.prog.wantsStandIn u) = true := by kernel_rfl
        exact (show Tryz.prog.wantsStandIn t = false by simpa using List.all_eq_true.1 hall t hm)⟩)
    (by kernel_rfl)
end Go.Proofs.YtpijolcklmdjbaaGreatDoor
