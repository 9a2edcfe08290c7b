/- A query is one message, as long as its text is, and a byte 0, and five; a text that is too long, or has a byte 0, is none: RenderQueries answers true, whatever text and number it is called with, and leaves what was there as it was. (Over the listed variables, tied to the program's text.) -/
import Derived.Test.YtpijolcklmdjbaaDoorZ20
import Derived.Test.YtpijolcklmdjbaaDoorZ29
namespace Go.Proofs.YtpijolcklmdjbaaDoor
open Go.RowKit Go.Lib Go.WideShapes Go.ChangeShapes Go.ChangeAt Go.Joins

/-- Is a byte 0 among the first ones? -/
def zeroB (l : Bs) : Bool := decide ((0 : UInt8) ∈ l)
theorem zero_next {l : Bs} {j : Nat} (h : j < l.length) : zeroB (l.take (j + 1)) = (zeroB (l.take j) || (l[j] == 0)) := by
  have e : ((0 : UInt8) ∈ l.take (j + 1)) ↔ ((0 : UInt8) ∈ l.take j ∨ l[j] = 0) := by
    rw [List.take_succ_eq_append_getElem h, List.mem_append, List.mem_singleton]
    exact or_congr Iff.rfl eq_comm
  unfold zeroB
  rw [decide_eq_decide.2 e, Bool.decide_or]
  congr 1
theorem byte_zero (b : UInt8) : ((b.toNat : Int) == 0) = (b == 0) := by
  by_cases h : b = 0
  · subst h; rfl
  · have h1 : ¬ (b.toNat : Int) = 0 := fun e => h (UInt8.toNat_inj.mp (by have : b.toNat = 0 := by omega
                                                                          exact this))
    rw [beq_false_of_ne h, beq_false_of_ne h1]
theorem q_facts (s : ByteArray) : ∃ q : ByteArray, q = qS s ∧ q.size = s.size + 6 ∧ (∀ h : 0 < q.size, ((q[0]'h).toNat : Int) = 81) ∧ q.extract 5 (q.size - 1) = s := by
  refine ⟨_, rfl, ?_, fun h => ?_, ?_⟩
  · rw [← bytes_len, qS_list, List.length_cons, List.length_append, be4_length, List.length_append, bytes_len]; simp; omega
  · have : (qS s)[0]'h = 81 := by
      have h1 := qS_list s
      have h2 : (bytes (qS s))[0]'(by rw [bytes_len]; exact h) = (qS s)[0]'h := rfl
      rw [← h2]
      simp only [h1, List.getElem_cons_zero]
    rw [this]; rfl
  · have hz : (qS s).size = s.size + 6 := by rw [← bytes_len, qS_list, List.length_cons, List.length_append, be4_length, List.length_append, bytes_len]; simp; omega
    apply ByteArray.ext
    apply Array.toList_inj.1
    rw [hz, ByteArray.data_extract, Array.toList_extract, show (qS s).data.toList = bytes (qS s) from rfl, qS_list]
    simp [List.extract, be4, bytes]
set_option maxRecDepth 100000 in
set_option maxHeartbeats 16000000 in
theorem queries_walk (s : ByteArray) (t : Int) (m : Int) (w : World) (zs : s.size ≤ 140737488351232) (ht : -9223372036854775808 ≤ t ∧ t ≤ 9223372036854775807) (hm : w.cell? ⟨1, 0, none⟩ = some (.int .i64 m)) (hT : TakenAt w) :
    Calls Tryd.prog 4 #[.string s, .int .i64 t] w fun e w' => e = .returned (.bool true) ∧ Below w.heap.size w w' := by
  have HM := Lib.hid hm
  have HT := Lib.hid hT
  clear hm hT
  go_enter Tryd.func4, Tryd.ntmps4
  go_wp2_with fail
  refine (shown13 m w HM.out HT.out).mono ?_; rintro e w1 ⟨rfl, hb⟩
  have P1 := Lib.hid hb
  clear hb
  by_cases hbig : 500 < s.size
  · have hbig' : (500 : Int) < s.size := by omega
    go_wp2_with fail
    go_ret
    exact ⟨rfl, P1.out⟩
  have hbig' : ¬ (500 : Int) < s.size := by omega
  have hs : s.size ≤ 500 := by omega
  clear hbig
  go_upto_if 24 with (fail)
  go_cut [6] (fun s wx => ∃ I : Int, s = .int .i64 I ∧ 0 ≤ I ∧ I ≤ 9223372036854775807 ∧ w1 = wx)
  case first => as_aux_lemma =>
    go_wp2_with fail
    all_goals go_meet
    all_goals exact ⟨_, rfl, by omega, by omega, rfl⟩
  case rest =>
  obtain ⟨I, rfl, hI0, hI9, rfl⟩ := hcut
  obtain ⟨K, hKI, hK24⟩ : ∃ K : Nat, I.tmod 24 = (K : Nat) ∧ K < 24 := by
    refine ⟨(I.tmod 24).toNat, ?_, ?_⟩ <;> (rw [Int.tmod_eq_emod_of_nonneg hI0]; have := Int.emod_nonneg I (show (24 : Int) ≠ 0 by omega); have := Int.emod_lt_of_pos I (show (0 : Int) < 24 by omega); omega)
  clear ht
  go_wp2_with fail
  go_loopw [7, 8] (fun t i wr => ∃ (j : Nat) (T : ByteArray), j ≤ K + 1 ∧ i = .int .i64 j ∧ t = .string T ∧ T.size ≤ 500 * j ∧ wr = w1) (fun _ i _ => K + 1 - (RowKit.intOf i).toNat)
  case atStart => exact ⟨0, _, Nat.zero_le _, rfl, rfl, by decide, rfl⟩
  case round =>
    obtain ⟨j, T, hj, rfl, rfl, hTs, hwr⟩ := hrel
    subst hwr
    by_cases hlt : j < K + 1
    · have hlt' : (j : Int) < 1 + K := by omega
      have hTb : T.size ≤ 12500 := by omega
      have HTS := Lib.hid hTs
      clear hTs
      go_wp2_with fail
      go_roundw
      case measure => first | omega | (simp [RowKit.intOf]; omega)
      case rel => exact ⟨j + 1, T ++ s, by omega, by go_num, rfl, (by rw [ByteArray.size_append]; have := HTS.out; omega), (by trivial)⟩
    · have hlt' : ¬ (j : Int) < 1 + K := by omega
      have hTb : T.size ≤ 12500 := by omega
      have HQ := Lib.hid (fun W => query_any W T (by omega))
      have P1 := Lib.hid P1.out
      clear hTs
      go_wp2_with fail
      go_loopw [9, 10] (fun o i wx => ∃ j : Nat, j ≤ T.size ∧ i = .int .i64 j ∧ o = .bool (zeroB ((bytes T).take j)) ∧ wx = wr) (fun _ i _ => T.size - (RowKit.intOf i).toNat)
      case atStart => exact ⟨0, Nat.zero_le _, rfl, rfl, rfl⟩
      case round =>
        obtain ⟨j, hj, rfl, rfl, hwx⟩ := hrel
        subst hwx
        by_cases hlt : j < T.size
        · have hlt' : (j : Int) < T.size := by omega
          have hjl : j < (bytes T).length := by rw [blen]; exact hlt
          have HN := Lib.hid (zero_next hjl)
          generalize hb : zeroB ((bytes T).take j) = b at HN ⊢
          cases b with
          | false =>
            have HN := Lib.hid (show zeroB ((bytes T).take (j + 1)) = (T[j] == 0) from HN.out)
            clear hb
            go_wp2_with fail
            go_roundw
            case measure => first | omega | (simp [RowKit.intOf]; omega)
            case rel => exact ⟨j + 1, by omega, by go_num, (by rw [HN.out]; first | done | exact congrArg Value.bool (byte_zero _)), (by trivial)⟩
          | true =>
            have HN := Lib.hid (show zeroB ((bytes T).take (j + 1)) = true from HN.out)
            clear hb
            go_wp2_with fail
            go_roundw
            case measure => first | omega | (simp [RowKit.intOf]; omega)
            case rel => exact ⟨j + 1, by omega, by go_num, (by rw [HN.out]), (by trivial)⟩
        · obtain rfl : j = T.size := by omega
          have HOK := Lib.hid (show (bytes T).take T.size = bytes T by rw [← blen, List.take_length])
          rw [HOK.out]
          clear hlt hj
          cases hz : zeroB (bytes T) with
          | true =>
            have HQ2 := Lib.hid (show qV T = ({ data := #[] }, 1) from if_pos (of_decide_eq_true hz))
            clear hz
            go_wp2_with fail
            refine (HQ.out wr).mono ?_; rintro e w3 ⟨rfl, hb⟩
            rw [HQ2.out]
            have P3 := Lib.hid (P1.out.step hb P1.out.size)
            clear hb
            go_wp2_with fail
            go_ret
            exact ⟨rfl, P3.out⟩
          | false =>
            have h0 : (0 : UInt8) ∉ bytes T := of_decide_eq_false hz
            clear hz
            by_cases hl : 9999 < T.size
            · have hl' : (9999 : Int) < T.size := by omega
              have HQ2 := Lib.hid (show qV T = ({ data := #[] }, 3) by unfold qV; rw [if_neg h0, if_pos hl])
              clear hl h0
              go_wp2_with fail
              refine (HQ.out wr).mono ?_; rintro e w3 ⟨rfl, hb⟩
              rw [HQ2.out]
              have P3 := Lib.hid (P1.out.step hb P1.out.size)
              clear hb
              go_wp2_with fail
              go_ret
              exact ⟨rfl, P3.out⟩
            · have hl' : ¬ (9999 : Int) < T.size := by omega
              have hl2 : T.size ≤ 9999 := by omega
              obtain ⟨q, hq, hqs, hq0, hqe⟩ := q_facts T
              have HQ2 := Lib.hid (show qV T = (q, 0) by rw [hq]; exact query_good h0 hl2)
              have hqp : 0 < q.size := by omega
              have h81 : (((q[0]'hqp).toNat : Int) == 81) = true := by rw [hq0]; rfl
              have hqi : ((q.size : Int) == (T.size : Int) + 6) = true := by rw [hqs, beq_iff_eq]; omega
              have hqz : (q.size : Int) = (T.size : Int) + 6 := by omega
              have hex : ((q.extract 5 (T.size + 5)).toList == T.toList) = true := by rw [show T.size + 5 = q.size - 1 by omega, hqe]; simp
              clear hq hl h0 hqe hq0
              go_wp2_with fail
              refine (HQ.out wr).mono ?_; rintro e w3 ⟨rfl, hb⟩
              rw [HQ2.out]
              have P3 := Lib.hid (P1.out.step hb P1.out.size)
              clear hb
              have hw1 : IntKind.i64.wrap ((T.size : Int) + 6) = (T.size : Int) + 6 := IntWalk.i64_in _ (by omega)
              have hw2 : IntKind.i64.wrap ((q.size : Int) - 1) = (q.size : Int) - 1 := IntWalk.i64_in _ (by omega)
              go_wp2_with fail
              go_ret
              exact ⟨rfl, P3.out⟩
set_option maxRecDepth 100000 in
theorem queries_lifted (os : Os) (started : os.Started) (H : Type) (enc : TypeId × Value → H) :
    ReturnsInHanded {} Tryd.checked os 4 .any (fun w args => (Rows.renderQueriesSpec.pre enc Tryd.prog Tryd.f4 Rows.renderQueriesRow.domain false w args ∧ laidMetH Tryd.prog [("unicode/utf8.acceptRanges", Rows.laid_unicode_utf8_acceptRanges), ("taxirank/names.taken", Rows.laid_taxirank_names_taken), ("unicode/utf8.first", Rows.laid_unicode_utf8_first)] w) ∧ sizedMet enc Tryd.prog Tryd.f4 (OpenSpec.ofChange Rows.renderQueriesSpec) false w args) (Rows.renderQueriesSpec.post enc Tryd.prog Tryd.f4 false true false false) := by
  refine handed_laid (C := Tryd.checked) (X := fun w _ => laidMetH Tryd.prog [("unicode/utf8.acceptRanges", Rows.laid_unicode_utf8_acceptRanges), ("taxirank/names.taken", Rows.laid_taxirank_names_taken), ("unicode/utf8.first", Rows.laid_unicode_utf8_first)] w) (fun _ _ _ hh h => h.of_heap hh) own started (by kernel_rfl) Tryd.func4
    (ChangeSpec.witness_shaped (enc := enc) (C := Tryd.checked) (os := os) (X := fun w _ => laidMetH Tryd.prog [("unicode/utf8.acceptRanges", Rows.laid_unicode_utf8_acceptRanges), ("taxirank/names.taken", Rows.laid_taxirank_names_taken), ("unicode/utf8.first", Rows.laid_unicode_utf8_first)] w) false (World.laidAll Tryd.prog os [("unicode/utf8.acceptRanges", Rows.laid_unicode_utf8_acceptRanges), ("taxirank/names.taken", Rows.laid_taxirank_names_taken), ("unicode/utf8.first", Rows.laid_unicode_utf8_first)]) #[.string { data := #[] }, .int .i64 0] 8 (World.laidAll_os _ _ _) (World.shaped_of_ZipB (by kernel_rfl) (by kernel_rfl)) (by kernel_rfl) (by kernel_rfl) (by kernel_rfl)
      (by rw [MakeChecks.laidMetH_plain _ _ _ (by kernel_rfl)]; exact laidMet_laidAll _ (by kernel_rfl) (by kernel_rfl))) ?_
  intro W base args ds gs before hval0 hW hsz0 hsh hL
  obtain ⟨m, hm⟩ : ∃ m, W.cell? ⟨1, 0, none⟩ = some (.int .i64 m) := Tryd.laysM143.s1_3 W hsh
  have hT := taken_of_laid hL
  have hsz : (DataW.weightsEach Tryd.prog (Tryd.f4.params.toList ++ Rows.renderQueriesSpec.plain.varTypes Tryd.prog) (ds ++ gs)).all (· ≤ reachBytes) = true := hsz0
  clear hsz0
  have hval : ∀ (j : Nat) t v, Tryd.f4.params[j]? = some t → args[j]? = some v → Value.okWide Tryd.prog W .any base t v := hval0
  have hW' := hW
  obtain ⟨p, q, hA0, hV, rfl, _, _⟩ := hW
  have hA : DataW.TrodAll enc Tryd.prog W 0 (fun _ => true) true Tryd.f4.params.toList args.toList ds p := hA0
  rw [Tryd.params4] at hA hval hsz
  obtain ⟨v0, v1, d0, d1, p0, p1, rfl, rfl, rfl, h0, h1⟩ := trodAll_two hA
  obtain ⟨rfl, rfl⟩ := trodVars_none hV
  obtain ⟨s, rfl, rfl, rfl, hl_s⟩ := Go.ChangeMaps.open_string Tryd.underlying9 (hval 0 9 v0 rfl rfl) h0
  have hz_s : s.size ≤ 140737488351232 := by have := sized_string hsz (j := 0) (t := 9) rfl rfl; rw [size_listG] at this; exact this
  obtain ⟨t, rfl, rfl, rfl, wf_t⟩ := open_int Tryd.underlying3 (hval 1 3 v1 rfl rfl) h1
  have h_t := int_range wf_t
  refine (queries_walk s t m W hz_s h_t hm hT).mono fun e W' ⟨he, hb⟩ => ?_
  subst he
  exact ⟨_, rfl, law_shut laidOut (by kernel_rfl) (by kernel_rfl) Tryd.underlying4 rfl hW' rfl hb⟩

theorem queries_holds : Rows.RenderQueriesSaid :=
  OpenClaim.holds_of_wide 4 Tryd.f4 rfl rfl rfl rfl rfl rfl rfl ⟨rfl, rfl, rfl, rfl, rfl⟩ rfl rfl rfl rfl rfl (by kernel_rfl) Tryd.func4 (by kernel_rfl)
    (of_decide_eq_true (by kernel_rfl)) (by unfold Func.isWrapper; rw [if_neg (of_decide_eq_false (by kernel_rfl))]; exact ⟨rfl, rfl⟩)
    (fun os started H enc _ => queries_lifted os started H enc)

theorem queries_card : Rows.RenderQueriesCardSaid :=
  Claim7.holds_tied_plain_at .later [] [.data, .data, .pinned] true _ false queries_holds (fun _ h => by cases h) (by kernel_rfl) (fun _ h => by cases h) renderQueries_row_tie rfl ⟨rfl, rfl⟩ (by kernel_rfl) rfl
    (fun f fn hf hfn => by
      obtain rfl : f = 4 := Option.some.inj ((show Tryd.prog.funcNamed "taxirank/taxiranklaw13.RenderQueries" = some 4 by kernel_rfl).symm.trans hf) |>.symm
      obtain rfl : fn = Tryd.f4 := (Option.some.inj (Tryd.func4.symm.trans hfn)).symm
      exact ⟨by kernel_rfl, fun j t ht => by
        rw [Tryd.params4] at ht
        have hm : t ∈ [9, 3] := by simpa using Array.mem_of_getElem? ht
        have hall : ([9, 3].all fun u => !Tryd.prog.wantsStandIn u) = true := by kernel_rfl
        exact (show Tryd.prog.wantsStandIn t = false by simpa using List.all_eq_true.1 hall t hm)⟩)
    (by kernel_rfl)
end Go.Proofs.YtpijolcklmdjbaaDoor
