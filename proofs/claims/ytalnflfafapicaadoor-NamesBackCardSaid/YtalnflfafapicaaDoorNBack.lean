/- An identifier, and a value, scanned, say what they are of: NamesBack answers true, whatever two texts it is called with, and leaves what was there as it was. (Over the listed variables, tied to the program's text.) -/
import Derived.Test.YtalnflfafapicaaDoorNCard
import Derived.Test.YtalnflfafapicaaDoorNReadM
import Derived.Test.YtalnflfafapicaaDoorTold
namespace Go.Proofs.YtalnflfafapicaaDoor
open Go.RowKit Go.Lib Go.WideShapes Go.ChangeShapes Go.ChangeAt Go.Joins

theorem nb_cat (a b : ByteArray) : bytes (a ++ b) = bytes a ++ bytes b := by simp [bytes]

/-- What is scanned in NamesBack. -/
theorem back_tokens (s t I Q : ByteArray) (h0 : bytes s ≠ []) (hs : (0 : UInt8) ∉ bytes s) (ht : (0 : UInt8) ∉ bytes t) (hI : I = ⟨(identB (bytes s)).toArray⟩) (hQ : Q = ⟨(quoted 39 (bytes t)).toArray⟩) :
    ∃ L k, (k = 119 ∨ k = 113) ∧ tokens (bytes ({ data := #[120, 32] } ++ I ++ { data := #[61] } ++ Q ++ { data := #[59, 121] })) = some L ∧ L.map kt = [(119, [120]), (k, bytes s), (111, [61]), (115, bytes t), (111, [59]), (119, [121])] := by
  obtain ⟨k, hk, hK⟩ := back_kts (bytes s) (bytes t) h0
  have e : bytes ({ data := #[120, 32] } ++ I ++ { data := #[61] } ++ Q ++ { data := #[59, 121] }) = 120 :: 32 :: (identB (bytes s) ++ 61 :: (quoted 39 (bytes t) ++ [59, 121])) := by
    rw [nb_cat, nb_cat, nb_cat, nb_cat, hI, hQ]
    simp [bytes]
  obtain ⟨L, h1, h2⟩ := tokens_kts (l := 120 :: 32 :: (identB (bytes s) ++ 61 :: (quoted 39 (bytes t) ++ [59, 121]))) (by
    intro h
    simp at h
    rcases h with h | h
    · exact hs (ident_mem (by decide) h)
    · exact ht (quoted_mem (by decide) h)) hK
  exact ⟨L, k, hk, by rw [e]; exact h1, h2⟩

theorem six_toks {L : List Tok} {a b c d e f : UInt8 × Bs} (h : L.map kt = [a, b, c, d, e, f]) : ∃ q0 q1 q2 q3 q4 q5, L = [q0, q1, q2, q3, q4, q5] ∧ kt q1 = b ∧ kt q2 = c ∧ kt q3 = d ∧ kt q4 = e := by
  have hl := congrArg List.length h
  match L, hl with
  | [q0, q1, q2, q3, q4, q5], _ =>
    simp only [List.map_cons, List.map_nil, List.cons.injEq] at h
    exact ⟨q0, q1, q2, q3, q4, q5, rfl, h.2.1, h.2.2.1, h.2.2.2.1, h.2.2.2.2.1⟩

set_option maxRecDepth 100000 in
set_option maxHeartbeats 8000000 in
theorem back_ok (s t : ByteArray) (m : Int) (w : World) (_hs : s.size ≤ 140737488351232) (_ht : t.size ≤ 140737488351232) (hm : w.cell? ⟨1, 0, none⟩ = some (.int .i64 m)) (hT : TakenAt w) :
    Calls Tryd.prog 4 #[.string s, .string t] w fun e w' => e = .returned (.bool true) ∧ Below w.heap.size w w' := by
  have HM := Lib.hid hm
  have HW0 := Lib.hid (World.block_lt_of_cell? w ⟨1, 0, none⟩ hm)
  have HT := Lib.hid hT
  have HSH := Lib.hid (shown7_true m w hm hT)
  have HI := Lib.hid (fun (S : ByteArray) (W : World) h1 h2 h3 => ident_any S m W h1 h2 h3)
  have HL := Lib.hid (fun (S : ByteArray) (W : World) h1 h2 => literal_any S m W h1 h2)
  have HSC := Lib.hid (fun (S : ByteArray) (W : World) h1 h2 => scan_rows S m W h1 h2)
  clear hm hT
  by_cases hl : (s.size : Int) + t.size ≤ 900
  · by_cases hs0 : s.size = 0
    · obtain rfl : s = { data := #[] } := by
        apply ByteArray.ext
        exact Array.eq_empty_of_size_eq_zero hs0
      clear hs0
      go_enter Tryd.func4, Tryd.ntmps4
      go_wp2_with fail
      refine HSH.out.mono ?_; rintro e w1 ⟨rfl, hb1⟩
      have HB1 := Lib.hid hb1
      clear hb1 HSH
      go_wp2_with fail
      go_ret
      exact ⟨rfl, HB1.out⟩
    have hsp : 0 < s.size := by omega
    have hse : s.toList.isEmpty = false := str_some s hsp
    clear hs0
    go_enter Tryd.func4, Tryd.ntmps4
    go_wp2_with fail
    refine HSH.out.mono ?_; rintro e w1 ⟨rfl, hb1⟩
    have HB1 := Lib.hid hb1
    clear hb1 HSH
    go_wp2_with fail
    go_loopg [6] (s.size + t.size) (fun g v wr => ∃ k : Nat, v = .int .i64 k ∧ k ≤ s.size + t.size ∧ g = s.size + t.size - k ∧ wr = w1 ∧ ∀ i : Nat, i < k → (bytes (s ++ t))[i]? ≠ some 0)
    case atStart => exact ⟨0, rfl, Nat.zero_le _, rfl, rfl, fun i h => absurd h (Nat.not_lt_zero _)⟩
    case round =>
      obtain ⟨k, rfl, hk, hg, rfl, ho⟩ := hrel
      have HO := Lib.hid ho; have HGK := Lib.hid hg
      clear ho hg
      by_cases hlt : k < s.size + t.size
      · have hlt' : (k : Int) < (s.size : Int) + t.size := by omega
        have hks : k < (s ++ t).size := by rw [ByteArray.size_append]; exact hlt
        have hgx : (bytes (s ++ t))[k]? = some (s ++ t)[k] := by
          rw [List.getElem?_eq_getElem (by rw [bytes_len]; exact hks)]; rfl
        by_cases hc : (s ++ t)[k] = 0
        · have hc2 : (((s ++ t)[k].toNat : Int) == 0) = true := by rw [hc]; rfl
          clear hc hgx
          go_wp2_with fail
          go_ret
          exact ⟨rfl, HB1.out⟩
        · have hc2 : (((s ++ t)[k].toNat : Int) == 0) = false := by
            rw [beq_eq_false_iff_ne]
            intro e
            exact hc (UInt8.toNat_inj.1 (show (s ++ t)[k].toNat = (0 : UInt8).toNat from by have : ((0 : UInt8).toNat : Int) = 0 := rfl; omega))
          have HN := Lib.hid (show ∀ i : Nat, i < k + 1 → (bytes (s ++ t))[i]? ≠ some 0 from fun i hi => by
            rcases Nat.lt_succ_iff_lt_or_eq.1 hi with h | rfl
            · exact HO.out i h
            · rw [hgx]; exact fun e => hc (Option.some.inj e))
          clear hc hgx
          go_wp2_with fail
          go_roundg (s.size + t.size - (k + 1))
          case measure => have := HGK.out; omega
          case rel => exact ⟨k + 1, by go_num, by omega, rfl, rfl, HN.out⟩
      · obtain rfl : k = s.size + t.size := by omega
        have hno : (0 : UInt8) ∉ bytes (s ++ t) := fun hm => by
          obtain ⟨i, hi, he⟩ := List.mem_iff_getElem.1 hm
          exact HO.out i (by rw [bytes_len, ByteArray.size_append] at hi; exact hi) (by rw [List.getElem?_eq_getElem hi, he])
        rw [nb_cat, List.mem_append, not_or] at hno
        have HNA := Lib.hid hno.1; have HNB := Lib.hid hno.2
        clear hno HO HGK
        have HM1 := Lib.hid ((HB1.out.cell (p := ⟨1, 0, none⟩) HW0.out).trans HM.out)
        have hsn : (s.size : Int) + t.size ≤ 900 := by omega
        go_wp2_with fail
        refine (HI.out s wr (by omega) HM1.out (HT.out.below HB1.out)).mono ?_; rintro e w2 ⟨rfl, hb2⟩
        have HB2 := Lib.hid (HB1.out.step hb2 HB1.out.size)
        have HM2 := Lib.hid ((HB2.out.cell (p := ⟨1, 0, none⟩) HW0.out).trans HM.out)
        have hIl := ident_length (bytes s)
        rw [bytes_len] at hIl
        obtain ⟨I, hI⟩ : ∃ I : ByteArray, I = ⟨(identB (bytes s)).toArray⟩ := ⟨_, rfl⟩
        have hIs : I.size ≤ 2 * s.size + 2 := by rw [hI, str_size]; exact hIl
        rw [← hI]
        have HIE := Lib.hid hI
        clear hb2 hI hIl HM1 HB1
        go_wp2_with fail
        refine (HL.out t w2 (by omega) HM2.out).mono ?_; rintro e w3 ⟨rfl, hb3⟩
        have HB3 := Lib.hid (HB2.out.step hb3 HB2.out.size)
        have HM3 := Lib.hid ((HB3.out.cell (p := ⟨1, 0, none⟩) HW0.out).trans HM.out)
        have hQl := quoted_length 39 (bytes t)
        rw [bytes_len] at hQl
        obtain ⟨Q, hQ⟩ : ∃ Q : ByteArray, Q = ⟨(quoted 39 (bytes t)).toArray⟩ := ⟨_, rfl⟩
        have hQs : Q.size ≤ 2 * t.size + 2 := by rw [hQ, str_size]; exact hQl
        rw [← hQ]
        have HTK := Lib.hid (back_tokens s t I Q (fun e => by have := bytes_len s; rw [e] at this; simp at this; omega) HNA.out HNB.out HIE.out hQ)
        clear hb3 hQ hQl HM2 HB2
        go_wp2_with fail
        refine (HSC.out _ w3 (by simp only [ByteArray.size_append]; show 2 + I.size + 1 + Q.size + 2 ≤ 2000; omega) HM3.out).mono ?_; rintro e w4 ⟨hb4, hcs⟩
        have HB4 := Lib.hid (HB3.out.step hb4 HB3.out.size)
        clear hb4 HM3 HB3
        obtain ⟨L0, kk, hkk, hL0, hKT⟩ := HTK.out
        rcases hcs with ⟨hN, _⟩ | ⟨L, n, p, c, hN, hLn, hn2, rfl, hat⟩
        · rw [hL0] at hN; cases hN
        · rw [hL0] at hN
          cases hN
          obtain ⟨q0, q1, q2, q3, q4, q5, rfl, e1, e2, e3, e4⟩ := six_toks hKT
          obtain rfl : 6 = n := hLn
          obtain ⟨k1, t1, lo1, hi1⟩ := q1
          obtain ⟨k2, t2, lo2, hi2⟩ := q2
          obtain ⟨k3, t3, lo3, hi3⟩ := q3
          obtain ⟨k4, t4, lo4, hi4⟩ := q4
          simp only [kt, Prod.mk.injEq] at e1 e2 e3 e4
          obtain ⟨rfl, rfl⟩ := e1
          obtain ⟨rfl, rfl⟩ := e2
          obtain ⟨rfl, rfl⟩ := e3
          obtain ⟨rfl, rfl⟩ := e4
          obtain ⟨g, rfl, hg4, b0, b1, _, _⟩ := hat 1 _ rfl
          obtain ⟨g', hgg, _, _, d1, _, _⟩ := hat 2 _ rfl
          cases hgg
          obtain ⟨g', hgg, _, f0, f1, _, _⟩ := hat 3 _ rfl
          cases hgg
          obtain ⟨g', hgg, _, _, h1, _, _⟩ := hat 4 _ rfl
          cases hgg
          replace b1 : w4.cell? ⟨g, 5, none⟩ = some (.string s) := b1
          replace d1 : w4.cell? ⟨g, 9, none⟩ = some (.string { data := #[61] }) := d1
          replace f0 : w4.cell? ⟨g, 12, none⟩ = some (.int .u8 115) := f0
          replace f1 : w4.cell? ⟨g, 13, none⟩ = some (.string t) := f1
          replace h1 : w4.cell? ⟨g, 17, none⟩ = some (.string { data := #[59] }) := h1
          clear hat hKT hL0 HTK
          rcases hkk with rfl | rfl
          · replace b0 : w4.cell? ⟨g, 4, none⟩ = some (.int .u8 119) := b0
            go_wp2_with fail
            go_ret
            exact ⟨rfl, HB4.out⟩
          · replace b0 : w4.cell? ⟨g, 4, none⟩ = some (.int .u8 113) := b0
            go_wp2_with fail
            go_ret
            exact ⟨rfl, HB4.out⟩
  · have hl' : (900 : Int) < (s.size : Int) + t.size := by omega
    go_enter Tryd.func4, Tryd.ntmps4
    go_wp2_with fail
    refine HSH.out.mono ?_; rintro e w1 ⟨rfl, hb1⟩
    have HB1 := Lib.hid hb1
    clear hb1 HSH
    go_wp2_with fail
    go_ret
    exact ⟨rfl, HB1.out⟩

set_option maxRecDepth 100000 in
theorem back_lifted (os : Os) (started : os.Started) (H : Type) (enc : TypeId × Value → H) :
    ReturnsInHanded {} Tryd.checked os 4 .any (fun w args => (Rows.namesBackSpec.pre enc Tryd.prog Tryd.f4 Rows.namesBackRow.domain false w args ∧ laidMetH Tryd.prog [("unicode/utf8.acceptRanges", Rows.laid_unicode_utf8_acceptRanges), ("taxirank/names.taken", Rows.laid_taxirank_names_taken), ("unicode/utf8.first", Rows.laid_unicode_utf8_first)] w) ∧ sizedMet enc Tryd.prog Tryd.f4 (OpenSpec.ofChange Rows.namesBackSpec) false w args) (Rows.namesBackSpec.post enc Tryd.prog Tryd.f4 false true false false) := by
  refine handed_laid (C := Tryd.checked) (X := fun w _ => laidMetH Tryd.prog [("unicode/utf8.acceptRanges", Rows.laid_unicode_utf8_acceptRanges), ("taxirank/names.taken", Rows.laid_taxirank_names_taken), ("unicode/utf8.first", Rows.laid_unicode_utf8_first)] w) (fun _ _ _ hh h => h.of_heap hh) own started (by kernel_rfl) Tryd.func4
    (ChangeSpec.witness_shaped (enc := enc) (C := Tryd.checked) (os := os) (X := fun w _ => laidMetH Tryd.prog [("unicode/utf8.acceptRanges", Rows.laid_unicode_utf8_acceptRanges), ("taxirank/names.taken", Rows.laid_taxirank_names_taken), ("unicode/utf8.first", Rows.laid_unicode_utf8_first)] w) false (World.laidAll Tryd.prog os [("unicode/utf8.acceptRanges", Rows.laid_unicode_utf8_acceptRanges), ("taxirank/names.taken", Rows.laid_taxirank_names_taken), ("unicode/utf8.first", Rows.laid_unicode_utf8_first)]) #[.string { data := #[] }, .string { data := #[] }] 8 (World.laidAll_os _ _ _) (World.shaped_of_ZipB (by kernel_rfl) (by kernel_rfl)) (by kernel_rfl) (by kernel_rfl) (by kernel_rfl)
      (by rw [MakeChecks.laidMetH_plain _ _ _ (by kernel_rfl)]; exact laidMet_laidAll _ (by kernel_rfl) (by kernel_rfl))) ?_
  intro W base args ds gs before hval0 hW hsz0 hsh hL
  obtain ⟨m, hm⟩ : ∃ m, W.cell? ⟨1, 0, none⟩ = some (.int .i64 m) := Tryd.laysM143.s1_3 W hsh
  have hT := taken_of_laid hL
  have hsz : (DataW.weightsEach Tryd.prog (Tryd.f4.params.toList ++ Rows.namesBackSpec.plain.varTypes Tryd.prog) (ds ++ gs)).all (· ≤ reachBytes) = true := hsz0
  clear hsz0
  have hval : ∀ (j : Nat) t v, Tryd.f4.params[j]? = some t → args[j]? = some v → Value.okWide Tryd.prog W .any base t v := hval0
  have hW' := hW
  obtain ⟨p, q, hA0, hV, rfl, _, _⟩ := hW
  have hA : DataW.TrodAll enc Tryd.prog W 0 (fun _ => true) true Tryd.f4.params.toList args.toList ds p := hA0
  rw [Tryd.params4] at hA hval hsz
  obtain ⟨v0, v1, d0, d1, p0, p1, rfl, rfl, rfl, h0, h1⟩ := trodAll_two hA
  obtain ⟨rfl, rfl⟩ := trodVars_none hV
  obtain ⟨s, rfl, rfl, rfl, hl_s⟩ := Go.ChangeMaps.open_string Tryd.underlying9 (hval 0 9 v0 rfl rfl) h0
  have hz_s : s.size ≤ 140737488351232 := by have := sized_string hsz (j := 0) (t := 9) rfl rfl; rw [size_list] at this; exact this
  obtain ⟨t, rfl, rfl, rfl, hl_t⟩ := Go.ChangeMaps.open_string Tryd.underlying9 (hval 1 9 v1 rfl rfl) h1
  have hz_t : t.size ≤ 140737488351232 := by have := sized_string hsz (j := 1) (t := 9) rfl rfl; rw [size_list] at this; exact this
  refine (back_ok s t m W hz_s hz_t hm hT).mono fun e W' ⟨he, hb⟩ => ?_
  subst he
  exact ⟨_, rfl, law_shut laidOut (by kernel_rfl) (by kernel_rfl) Tryd.underlying4 rfl hW' rfl hb⟩

theorem back_holds : Rows.NamesBackSaid :=
  OpenClaim.holds_of_wide 4 Tryd.f4 rfl rfl rfl rfl rfl rfl rfl ⟨rfl, rfl, rfl, rfl, rfl⟩ rfl rfl rfl rfl rfl (by kernel_rfl) Tryd.func4 (by kernel_rfl)
    (of_decide_eq_true (by kernel_rfl)) (by unfold Func.isWrapper; rw [if_neg (of_decide_eq_false (by kernel_rfl))]; exact ⟨rfl, rfl⟩)
    (fun os started H enc _ => back_lifted os started H enc)

theorem back_card : Rows.NamesBackCardSaid :=
  Claim7.holds_tied_plain_at .later [] [.data, .data, .pinned] true _ false back_holds (fun _ h => by cases h) (by kernel_rfl) (fun _ h => by cases h) namesBack_row_tie rfl ⟨rfl, rfl⟩ (by kernel_rfl) rfl
    (fun f fn hf hfn => by
      obtain rfl : f = 4 := Option.some.inj ((show Tryd.prog.funcNamed "taxirank/taxiranklaw7.NamesBack" = some 4 by kernel_rfl).symm.trans hf) |>.symm
      obtain rfl : fn = Tryd.f4 := (Option.some.inj (Tryd.func4.symm.trans hfn)).symm
      exact ⟨by kernel_rfl, fun j t ht => by
        rw [Tryd.params4] at ht
        have hm : t ∈ [9, 9] := by simpa using Array.mem_of_getElem? ht
        have hall : ([9, 9].all fun u => !Tryd.prog.wantsStandIn u) = true := by kernel_rfl
        exact (show Tryd.prog.wantsStandIn t = false by simpa using List.all_eq_true.1 hall t hm)⟩)
    (by kernel_rfl)
end Go.Proofs.YtalnflfafapicaaDoor
