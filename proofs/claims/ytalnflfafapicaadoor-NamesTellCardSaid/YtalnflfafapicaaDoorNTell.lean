/- Whether a text is a name, it as an identifier and as a value, and the name that tokens begin with, are as the chapter says: NamesTell answers true, whatever text and tokens it is called with, and leaves what was there as it was. (Over the listed variables, tied to the program's text.) -/
import Derived.Test.YtalnflfafapicaaDoorNCard
import Derived.Test.YtalnflfafapicaaDoorNAsAll
import Derived.Test.YtalnflfafapicaaDoorNRefTake
import Derived.Test.YtalnflfafapicaaDoorNRefIdent
namespace Go.Proofs.YtalnflfafapicaaDoor
open Go.RowKit Go.Lib Go.WideShapes Go.ChangeShapes Go.ChangeAt Go.Joins

theorem text_size (t : Bs) : (⟨t.toArray⟩ : ByteArray).size = t.length := str_size t

set_option maxRecDepth 100000 in
set_option maxHeartbeats 8000000 in
theorem tell_walk (s : ByteArray) (p : Option Addr) (T : List Tok) (n c : Nat) (m : Int) (w : World) (hs : s.size ≤ 2000) (hT : T.length = n) (hn : n ≤ 50) (hA : TokW w p T) (hm : w.cell? ⟨1, 0, none⟩ = some (.int .i64 m)) (hK : TakenAt w) :
    Calls Tryd.prog 3 #[.string s, .slice p n c] w fun e w' => e = .returned (.bool true) ∧ Below w.heap.size w w' := by
  have HM := Lib.hid hm
  have HW0 := Lib.hid (World.block_lt_of_cell? w ⟨1, 0, none⟩ hm)
  have HSH := Lib.hid (shown7_true m w hm hK)
  have HT := Lib.hid hT; have HA := Lib.hid hA; have HK := Lib.hid hK
  clear hm hT hA hK
  go_enter Tryd.func3, Tryd.ntmps3
  go_wp2_with fail
  refine HSH.out.mono ?_; rintro e w1 ⟨rfl, hb1⟩
  have HB1 := Lib.hid hb1
  have HM1 := Lib.hid ((hb1.cell (p := ⟨1, 0, none⟩) HW0.out).trans HM.out)
  have HA1 := Lib.hid (HA.out.step hb1)
  have HK1 := Lib.hid (HK.out.step hb1)
  have HW1 := Lib.hid (show 1 < w1.heap.size from Nat.lt_of_lt_of_le HW0.out hb1.size)
  clear hb1 HSH
  go_wp2_with fail
  go_loopw [6] (fun i wr => ∃ k : Nat, i = .int .i64 k ∧ k ≤ n ∧ (∀ (j : Nat) (q : Tok), j < k → T[j]? = some q → q.text.length ≤ 500) ∧ w1 = wr) (fun i _ => n - (RowKit.intOf i).toNat)
  case atStart => exact ⟨0, rfl, Nat.zero_le _, fun j q h => absurd h (Nat.not_lt_zero _), rfl⟩
  case round =>
    obtain ⟨k, rfl, hk, hall, rfl⟩ := hrel
    have HALL := Lib.hid hall
    clear hall
    by_cases hlt : k < n
    · have hlt' : (k : Int) < n := by omega
      obtain ⟨t, ht⟩ : ∃ t, T[k]? = some t := ⟨_, List.getElem?_eq_getElem (by rw [HT.out]; exact hlt)⟩
      obtain ⟨g, off, rfl, hg⟩ : ∃ g off, p = some ⟨g, off, none⟩ ∧ g < w1.heap.size := by
        rcases HA1.out with h | ⟨g, off, hp, hg, _⟩
        · rw [h] at ht; cases ht
        · exact ⟨g, off, hp, hg⟩
      obtain ⟨_, _, a1, _⟩ := HA1.out.get ht
      have hsz := text_size t.text
      have HNX := Lib.hid (show t.text.length ≤ 500 → ∀ (j : Nat) (q : Tok), j < k + 1 → T[j]? = some q → q.text.length ≤ 500 from fun h j q hj hq => by
        rcases Nat.lt_succ_iff_lt_or_eq.1 hj with h' | rfl
        · exact HALL.out j q h' hq
        · rw [ht] at hq; cases hq; exact h)
      have HSZ := Lib.hid hsz
      clear hsz ht
      generalize (⟨t.text.toArray⟩ : ByteArray) = XT at a1 HSZ
      by_cases h5 : XT.size ≤ 500
      · have h5' : (XT.size : Int) ≤ 500 := by omega
        have HN1 := Lib.hid (HNX.out (by rw [← HSZ.out]; exact h5))
        go_wp2_with fail
        go_roundw
        case rel => exact ⟨k + 1, by go_num, by omega, HN1.out, by first | rfl | trivial⟩
        case measure => simp [RowKit.intOf]; omega
      · have h5' : (500 : Int) < XT.size := by omega
        go_wp2_with fail
        go_ret
        exact ⟨rfl, HB1.out⟩
    · obtain rfl : k = n := by omega
      have HTX := Lib.hid (show ∀ q ∈ T, q.text.length ≤ 2000 from fun q hq => by
        obtain ⟨j, hj, e⟩ := List.mem_iff_getElem.1 hq
        have := HALL.out j q (by rw [← HT.out]; exact hj) (by rw [List.getElem?_eq_getElem hj, e])
        omega)
      obtain ⟨TS, hTS⟩ : ∃ TS : ByteArray, TS = ⟨(takeB T).1.toArray⟩ := ⟨_, rfl⟩
      obtain ⟨TN, hTN⟩ : ∃ TN : Nat, TN = (takeB T).2 := ⟨_, rfl⟩
      have HTK := Lib.hid (show Calls Tryd.prog 10 #[.slice p k c] w1 fun e w' => e = .returned (.tuple #[.string TS, .int .i64 TN]) ∧ Below w1.heap.size w1 w' from by
        have := takew_any p T k c m w1 HT.out (by omega) HA1.out HTX.out HM1.out
        unfold Took at this
        rw [← hTS, ← hTN] at this; exact this)
      have HRT := Lib.hid (fun p' c' W (h : TokW W p' T) => (show Calls Tryd.prog 11 #[.slice p' k c'] W fun e w' => e = .returned (.tuple #[.string TS, .int .i64 TN]) ∧ Below W.heap.size W w' from by
        have := reftake_any p' T k c' W HT.out (by omega) h HTX.out
        unfold Took at this
        rw [← hTS, ← hTN] at this; exact this))
      clear hTS hTN
      go_wp2_with fail
      refine HTK.out.mono ?_; rintro e w2 ⟨rfl, hb2⟩
      have HB2 := Lib.hid hb2
      clear hb2 HTK
      go_wp2_with fail
      refine (asall_any p T k c w2 HT.out (by omega) (HA1.out.step HB2.out)).mono ?_; rintro e w3 ⟨hb3, p', c', rfl, hw3⟩
      have HB3 := Lib.hid (HB2.out.step hb3 HB2.out.size)
      have HR3 := Lib.hid (HRT.out p' c' w3 hw3)
      clear hb3 hw3 HRT HB2
      go_wp2_with fail
      refine HR3.out.mono ?_; rintro e w4 ⟨rfl, hb4⟩
      have HB4 := Lib.hid (HB3.out.step hb4 HB3.out.size)
      clear hb4 HR3 HB3
      obtain ⟨G, hG⟩ : ∃ G, G = goodB (bytes s) := ⟨_, rfl⟩
      obtain ⟨ID, hID⟩ : ∃ ID : ByteArray, ID = ⟨(identB (bytes s)).toArray⟩ := ⟨_, rfl⟩
      obtain ⟨LT, hLT⟩ : ∃ LT : ByteArray, LT = ⟨(quoted 39 (bytes s)).toArray⟩ := ⟨_, rfl⟩
      have HC1 := Lib.hid (fun W (h : Below w1.heap.size w1 W) => good_any s m W (by omega) ((h.cell (p := ⟨1, 0, none⟩) HW1.out).trans HM1.out))
      have HC2 := Lib.hid (fun W => refgood_any s W (by omega))
      have HC3 := Lib.hid (fun W (h : Below w1.heap.size w1 W) => ident_any s m W (by omega) ((h.cell (p := ⟨1, 0, none⟩) HW1.out).trans HM1.out) (HK1.out.step h))
      have HC4 := Lib.hid (fun W => refident_any s W hs)
      have HC5 := Lib.hid (fun W (h : Below w1.heap.size w1 W) => literal_any s m W (by omega) ((h.cell (p := ⟨1, 0, none⟩) HW1.out).trans HM1.out))
      have HC6 := Lib.hid (fun W => refquote_any 39 s W hs)
      rw [← hG] at HC1 HC2
      rw [← hID] at HC3 HC4
      rw [← hLT] at HC5 HC6
      clear hG hID hLT
      go_wp2_with fail
      refine (HC1.out w4 HB4.out).mono ?_; rintro e w5 ⟨rfl, hb5⟩
      have HB5 := Lib.hid (HB4.out.step (below_drew hb5) HB4.out.size)
      clear hb5
      go_wp2_with fail
      refine (HC2.out w5).mono ?_; rintro e w6 ⟨rfl, rfl⟩
      have hGG : (G == G) = true := by simp
      go_wp2_with fail
      refine (HC3.out w5 HB5.out).mono ?_; rintro e w6 ⟨rfl, hb6⟩
      have HB6 := Lib.hid (HB5.out.step hb6 HB5.out.size)
      clear hb6
      go_wp2_with fail
      refine (HC4.out w6).mono ?_; rintro e w7 ⟨rfl, hb7⟩
      have HB7 := Lib.hid (HB6.out.step hb7 HB6.out.size)
      clear hb7
      go_wp2_with fail
      refine (HC5.out w7 HB7.out).mono ?_; rintro e w8 ⟨rfl, hb8⟩
      have HB8 := Lib.hid (HB7.out.step hb8 HB7.out.size)
      clear hb8
      go_wp2_with fail
      refine (HC6.out w8).mono ?_; rintro e w9 ⟨rfl, hb9⟩
      have HB9 := Lib.hid (HB8.out.step hb9 HB8.out.size)
      clear hb9
      go_wp2_with fail
      go_ret
      exact ⟨rfl, HB1.out.step HB9.out HB1.out.size⟩

set_option maxRecDepth 100000 in
theorem tell_early (s : ByteArray) (p : Option Addr) (n c : Nat) (m : Int) (w : World) (h1 : (2000 : Int) < s.size ∨ (s.size : Int) ≤ 2000 ∧ (50 : Int) < n) (hm : w.cell? ⟨1, 0, none⟩ = some (.int .i64 m)) (hK : TakenAt w) :
    Calls Tryd.prog 3 #[.string s, .slice p n c] w fun e w' => e = .returned (.bool true) ∧ Below w.heap.size w w' := by
  have HSH := Lib.hid (shown7_true m w hm hK)
  clear hm hK
  rcases h1 with h1 | ⟨h0, h1⟩ <;>
  · go_enter Tryd.func3, Tryd.ntmps3
    go_wp2_with fail
    refine HSH.out.mono ?_; rintro e w1 ⟨rfl, hb1⟩
    have HB1 := Lib.hid hb1
    clear hb1 HSH
    go_wp2_with fail
    go_ret
    exact ⟨rfl, HB1.out⟩

theorem tell_ok (s : ByteArray) (p : Option Addr) (T : List Tok) (n c : Nat) (m : Int) (w : World) (hT : T.length = n) (hA : TokW w p T) (hm : w.cell? ⟨1, 0, none⟩ = some (.int .i64 m)) (hK : TakenAt w) :
    Calls Tryd.prog 3 #[.string s, .slice p n c] w fun e w' => e = .returned (.bool true) ∧ Below w.heap.size w w' := by
  by_cases h : s.size ≤ 2000
  · by_cases h2 : n ≤ 50
    · exact tell_walk s p T n c m w h hT h2 hA hm hK
    · exact tell_early s p n c m w (.inr ⟨by omega, by omega⟩) hm hK
  · exact tell_early s p n c m w (.inl (by omega)) hm hK

set_option maxRecDepth 100000 in
theorem tell_lifted (os : Os) (started : os.Started) (H : Type) (enc : TypeId × Value → H) :
    ReturnsInHanded {} Tryd.checked os 3 .any (fun w args => (Rows.namesTellSpec.pre enc Tryd.prog Tryd.f3 Rows.namesTellRow.domain false w args ∧ laidMetH Tryd.prog [("unicode/utf8.acceptRanges", Rows.laid_unicode_utf8_acceptRanges), ("taxirank/names.taken", Rows.laid_taxirank_names_taken), ("unicode/utf8.first", Rows.laid_unicode_utf8_first)] w) ∧ sizedMet enc Tryd.prog Tryd.f3 (OpenSpec.ofChange Rows.namesTellSpec) false w args) (Rows.namesTellSpec.post enc Tryd.prog Tryd.f3 false true false false) := by
  refine handed_laid (C := Tryd.checked) (X := fun w _ => laidMetH Tryd.prog [("unicode/utf8.acceptRanges", Rows.laid_unicode_utf8_acceptRanges), ("taxirank/names.taken", Rows.laid_taxirank_names_taken), ("unicode/utf8.first", Rows.laid_unicode_utf8_first)] w) (fun _ _ _ hh h => h.of_heap hh) own started (by kernel_rfl) Tryd.func3
    (ChangeSpec.witness_shaped (enc := enc) (C := Tryd.checked) (os := os) (X := fun w _ => laidMetH Tryd.prog [("unicode/utf8.acceptRanges", Rows.laid_unicode_utf8_acceptRanges), ("taxirank/names.taken", Rows.laid_taxirank_names_taken), ("unicode/utf8.first", Rows.laid_unicode_utf8_first)] w) false (World.laidAll Tryd.prog os [("unicode/utf8.acceptRanges", Rows.laid_unicode_utf8_acceptRanges), ("taxirank/names.taken", Rows.laid_taxirank_names_taken), ("unicode/utf8.first", Rows.laid_unicode_utf8_first)]) #[.string { data := #[] }, .slice none 0 0] 8 (World.laidAll_os _ _ _) (World.shaped_of_ZipB (by kernel_rfl) (by kernel_rfl)) (by kernel_rfl) (by kernel_rfl) (by kernel_rfl)
      (by rw [MakeChecks.laidMetH_plain _ _ _ (by kernel_rfl)]; exact laidMet_laidAll _ (by kernel_rfl) (by kernel_rfl))) ?_
  intro W base args ds gs before hval0 hW hsz0 hsh hL
  obtain ⟨m, hm⟩ : ∃ m, W.cell? ⟨1, 0, none⟩ = some (.int .i64 m) := Tryd.laysM143.s1_3 W hsh
  have hT := taken_of_laid hL
  have hsz : (DataW.weightsEach Tryd.prog (Tryd.f3.params.toList ++ Rows.namesTellSpec.plain.varTypes Tryd.prog) (ds ++ gs)).all (· ≤ reachBytes) = true := hsz0
  clear hsz0
  have hval : ∀ (j : Nat) t v, Tryd.f3.params[j]? = some t → args[j]? = some v → Value.okWide Tryd.prog W .any base t v := hval0
  have hW' := hW
  obtain ⟨p, q, hA0, hV, rfl, _, _⟩ := hW
  have hA : DataW.TrodAll enc Tryd.prog W 0 (fun _ => true) true Tryd.f3.params.toList args.toList ds p := hA0
  rw [Tryd.params3] at hA hval hsz
  obtain ⟨v0, v1, d0, d1, p0, p1, rfl, rfl, rfl, h0, h1⟩ := trodAll_two hA
  obtain ⟨rfl, rfl⟩ := trodVars_none hV
  obtain ⟨s, rfl, rfl, rfl, hl_s⟩ := Go.ChangeMaps.open_string Tryd.underlying9 (hval 0 9 v0 rfl rfl) h0
  have hz_s : s.size ≤ 140737488351232 := by have := sized_string hsz (j := 0) (t := 9) rfl rfl; rw [size_list] at this; exact this
  obtain ⟨a1, len, cap, rfl⟩ := okWide_slice Tryd.underlying22 (hval 1 22 v1 rfl rfl)
  obtain ⟨T, hTl, hTw⟩ := open_toks h1
  refine (tell_ok s a1 T len cap m W hTl hTw hm hT).mono fun e W' ⟨he, hb⟩ => ?_
  subst he
  exact ⟨_, rfl, law_shut laidOut (by kernel_rfl) (by kernel_rfl) Tryd.underlying4 rfl hW' rfl hb⟩

theorem tell_holds : Rows.NamesTellSaid :=
  OpenClaim.holds_of_wide 3 Tryd.f3 rfl rfl rfl rfl rfl rfl rfl ⟨rfl, rfl, rfl, rfl, rfl⟩ rfl rfl rfl rfl rfl (by kernel_rfl) Tryd.func3 (by kernel_rfl)
    (of_decide_eq_true (by kernel_rfl)) (by unfold Func.isWrapper; rw [if_neg (of_decide_eq_false (by kernel_rfl))]; exact ⟨rfl, rfl⟩)
    (fun os started H enc _ => tell_lifted os started H enc)

theorem tell_card : Rows.NamesTellCardSaid :=
  Claim7.holds_tied_plain_at .later [] [.data, .data, .pinned] true _ false tell_holds (fun _ h => by cases h) (by kernel_rfl) (fun _ h => by cases h) namesTell_row_tie rfl ⟨rfl, rfl⟩ (by kernel_rfl) rfl
    (fun f fn hf hfn => by
      obtain rfl : f = 3 := Option.some.inj ((show Tryd.prog.funcNamed "taxirank/taxiranklaw7.NamesTell" = some 3 by kernel_rfl).symm.trans hf) |>.symm
      obtain rfl : fn = Tryd.f3 := (Option.some.inj (Tryd.func3.symm.trans hfn)).symm
      exact ⟨by kernel_rfl, fun j t ht => by
        rw [Tryd.params3] at ht
        have hm : t ∈ [9, 22] := by simpa using Array.mem_of_getElem? ht
        have hall : ([9, 22].all fun u => !Tryd.prog.wantsStandIn u) = true := by kernel_rfl
        exact (show Tryd.prog.wantsStandIn t = false by simpa using List.all_eq_true.1 hall t hm)⟩)
    (by kernel_rfl)
end Go.Proofs.YtalnflfafapicaaDoor
