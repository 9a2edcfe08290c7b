/- A name is taken of what was scanned: NamesTakes answers true, whatever three texts it is called with, and leaves what was there as it was. (Over the listed variables, tied to the program's text.) -/
import Derived.Test.YtalnflfafapicaaDoorNCard
import Derived.Test.YtalnflfafapicaaDoorNTakesM
namespace Go.Proofs.YtalnflfafapicaaDoor
open Go.RowKit Go.Lib Go.WideShapes Go.ChangeShapes Go.ChangeAt Go.Joins

theorem nb_cat (a b : ByteArray) : bytes (a ++ b) = bytes a ++ bytes b := by simp [bytes]

theorem takes_a {a I more : ByteArray} (hI : I = ⟨(identB (bytes a)).toArray⟩) {L : List Tok} (h : tokens (bytes (I ++ { data := #[32, 61, 32] } ++ more)) = some L) (ha : goodB (bytes a) = true) : takeB L = (bytes a, 1) := by
  rw [nb_cat, nb_cat, hI, show bytes (⟨(identB (bytes a)).toArray⟩ : ByteArray) = identB (bytes a) by simp [bytes], show bytes { data := #[32, 61, 32] } = [32, 61, 32] from rfl, show identB (bytes a) ++ [32, 61, 32] ++ bytes more = identB (bytes a) ++ 32 :: 61 :: 32 :: bytes more by simp] at h
  exact read_one ha h
theorem takes_ab {a b I J more : ByteArray} (hI : I = ⟨(identB (bytes a)).toArray⟩) (hJ : J = ⟨(identB (bytes b)).toArray⟩) {L : List Tok} (h : tokens (bytes (I ++ { data := #[32, 46, 32] } ++ J ++ { data := #[32, 61, 32] } ++ more)) = some L) (ha : goodB (bytes a) = true) (hab : goodB (bytes (a ++ { data := #[46] } ++ b)) = true) : takeB L = (bytes a ++ 46 :: bytes b, 3) := by
  rw [nb_cat, nb_cat, show bytes { data := #[46] } = [46] from rfl, show bytes a ++ [46] ++ bytes b = bytes a ++ 46 :: bytes b by simp] at hab
  rw [nb_cat, nb_cat, nb_cat, nb_cat, hI, hJ, show bytes (⟨(identB (bytes a)).toArray⟩ : ByteArray) = identB (bytes a) by simp [bytes], show bytes (⟨(identB (bytes b)).toArray⟩ : ByteArray) = identB (bytes b) by simp [bytes], show bytes { data := #[32, 61, 32] } = [32, 61, 32] from rfl, show bytes { data := #[32, 46, 32] } = [32, 46, 32] from rfl, show identB (bytes a) ++ [32, 46, 32] ++ identB (bytes b) ++ [32, 61, 32] ++ bytes more = identB (bytes a) ++ 32 :: 46 :: 32 :: (identB (bytes b) ++ 32 :: 61 :: 32 :: bytes more) by simp] at h
  exact read_both ha hab h

/-- What Take answers, as a text and a number. -/
theorem took_cases (T : List Tok) : ∃ (S : ByteArray) (n : Int), ((.string ⟨(takeB T).1.toArray⟩ : Value) = .string S ∧ ((takeB T).2 : Int) = n) ∧ bytes S = (takeB T).1 ∧ S.size = (takeB T).1.length ∧ ((n == 0) = true ∨ ((n == 0) = false ∧ goodB (bytes S) = true)) := by
  refine ⟨⟨(takeB T).1.toArray⟩, _, ⟨rfl, rfl⟩, by simp [bytes], str_size _, ?_⟩
  rcases takeB_cases T with h | ⟨x, n, h, hg, hn⟩
  · rw [h]; exact .inl rfl
  · rw [h]
    refine .inr ⟨by simp; exact hn, ?_⟩
    rw [show bytes ⟨(x, n).1.toArray⟩ = x by simp [bytes]]; exact hg

theorem takeB_size {T : List Tok} (h : ∀ q ∈ T, q.text.length ≤ 2000) : (takeB T).1.length ≤ 4001 := by
  have ht : (takes T).1.length ≤ 4001 := by
    match T, h with
    | [], _ => simp [takes]
    | [t], h => have := h t (by simp); simp [takes, foldB_length]; omega
    | [t, u], h => have := h t (by simp); simp [takes, foldB_length]; omega
    | t :: u :: v :: r, h =>
      have h1 := h t (by simp)
      have h2 := h v (by simp)
      rw [takes_three]
      split
      · simp [foldB_length]; omega
      · simp [foldB_length]; omega
  unfold takeB
  split
  · exact ht
  · simp

set_option maxRecDepth 100000 in
set_option maxHeartbeats 16000000 in
theorem takes_ok (a b more : ByteArray) (m : Int) (w : World) (_ha : a.size ≤ 140737488351232) (_hb : b.size ≤ 140737488351232) (_hm : more.size ≤ 140737488351232) (hm : w.cell? ⟨1, 0, none⟩ = some (.int .i64 m)) (hT : TakenAt w) :
    Calls Tryd.prog 7 #[.string a, .string b, .string more] w fun e w' => e = .returned (.bool true) ∧ Below w.heap.size w w' := by
  have HM := Lib.hid hm
  have HW0 := Lib.hid (World.block_lt_of_cell? w ⟨1, 0, none⟩ hm)
  have HT := Lib.hid hT
  have HSH := Lib.hid (shown7_true m w hm hT)
  have HG := Lib.hid (fun (S : ByteArray) (W : World) h1 h2 => good_any S m W h1 h2)
  have HK := Lib.hid (fun p T n c W h1 h2 h3 h4 h5 => take_any p T n c m W h1 h2 h3 h4 h5)
  have HI := Lib.hid (fun (S : ByteArray) (W : World) h1 h2 h3 => ident_any S m W h1 h2 h3)
  have HSC := Lib.hid (fun (S : ByteArray) (W : World) h1 h2 => scan_rows S m W h1 h2)
  clear hm hT
  by_cases hl : (a.size : Int) + b.size + more.size ≤ 900
  · go_enter Tryd.func7, Tryd.ntmps7
    go_wp2_with fail
    refine HSH.out.mono ?_; rintro e w1 ⟨rfl, hb1⟩
    have HB1 := Lib.hid hb1
    have HM1 := Lib.hid ((HB1.out.cell (p := ⟨1, 0, none⟩) HW0.out).trans HM.out)
    clear hb1 HSH
    go_wp2_with fail
    refine (HI.out a w1 (by omega) HM1.out (HT.out.below HB1.out)).mono ?_; rintro e w2 ⟨rfl, hb2⟩
    have HB2 := Lib.hid (HB1.out.step hb2 HB1.out.size)
    have HM2 := Lib.hid ((HB2.out.cell (p := ⟨1, 0, none⟩) HW0.out).trans HM.out)
    clear hb2 HM1 HB1
    have hIl := ident_length (bytes a)
    rw [bytes_len] at hIl
    obtain ⟨I, hI⟩ : ∃ I : ByteArray, I = ⟨(identB (bytes a)).toArray⟩ := ⟨_, rfl⟩
    have hIs : I.size ≤ 2 * a.size + 2 := by rw [hI, str_size]; exact hIl
    rw [← hI]
    have HIE := Lib.hid hI
    clear hI hIl
    go_wp2_with fail
    refine (HI.out b w2 (by omega) HM2.out (HT.out.below HB2.out)).mono ?_; rintro e w3 ⟨rfl, hb3⟩
    have HB3 := Lib.hid (HB2.out.step hb3 HB2.out.size)
    have HM3 := Lib.hid ((HB3.out.cell (p := ⟨1, 0, none⟩) HW0.out).trans HM.out)
    clear hb3 HM2 HB2
    have hJl := ident_length (bytes b)
    rw [bytes_len] at hJl
    obtain ⟨J, hJ⟩ : ∃ J : ByteArray, J = ⟨(identB (bytes b)).toArray⟩ := ⟨_, rfl⟩
    have hJs : J.size ≤ 2 * b.size + 2 := by rw [hJ, str_size]; exact hJl
    rw [← hJ]
    have HJE := Lib.hid hJ
    clear hJ hJl
    go_wp2_with fail
    refine (HSC.out _ w3 (by simp only [ByteArray.size_append]; show I.size + 3 + J.size + 3 + more.size ≤ 2000; omega) HM3.out).mono ?_; rintro e w4 ⟨hb4, hcs1⟩
    have HB4 := Lib.hid (HB3.out.step hb4 HB3.out.size)
    have HM4 := Lib.hid ((HB4.out.cell (p := ⟨1, 0, none⟩) HW0.out).trans HM.out)
    clear hb4 HM3 HB3
    rcases hcs1 with ⟨_, p1, c1, rfl⟩ | ⟨L1, n1, p1, c1, hT1, hL1, hn1, rfl, hat1⟩
    · go_wp2_with fail
      refine (HI.out a w4 (by omega) HM4.out (HT.out.below HB4.out)).mono ?_; rintro e w5 ⟨rfl, hb5⟩
      rw [← HIE.out]
      have HB5 := Lib.hid (HB4.out.step hb5 HB4.out.size)
      have HM5 := Lib.hid ((HB5.out.cell (p := ⟨1, 0, none⟩) HW0.out).trans HM.out)
      clear hb5 HM4 HB4
      go_wp2_with fail
      refine (HSC.out _ w5 (by simp only [ByteArray.size_append]; show I.size + 3 + more.size ≤ 2000; omega) HM5.out).mono ?_; rintro e w6 ⟨hb6, hcs2⟩
      have HB6 := Lib.hid (HB5.out.step hb6 HB5.out.size)
      have HM6 := Lib.hid ((HB6.out.cell (p := ⟨1, 0, none⟩) HW0.out).trans HM.out)
      clear hb6 HM5 HB5
      rcases hcs2 with ⟨_, p2, c2, rfl⟩ | ⟨L2, n2, p2, c2, _, _, _, rfl, _⟩
      all_goals
        go_wp2_with fail
        go_ret
        exact ⟨rfl, HB6.out⟩
    · have HT1 := Lib.hid hT1; have HL1 := Lib.hid hL1; have HA1 := Lib.hid hat1.off
      clear hT1 hL1 hat1
      go_wp2_with fail
      refine (HI.out a w4 (by omega) HM4.out (HT.out.below HB4.out)).mono ?_; rintro e w5 ⟨rfl, hb5⟩
      rw [← HIE.out]
      have HB5 := Lib.hid (HB4.out.step hb5 HB4.out.size)
      have HM5 := Lib.hid ((HB5.out.cell (p := ⟨1, 0, none⟩) HW0.out).trans HM.out)
      have HA1b := Lib.hid (HA1.out.step hb5)
      clear hb5 HM4 HB4
      go_wp2_with fail
      refine (HSC.out _ w5 (by simp only [ByteArray.size_append]; show I.size + 3 + more.size ≤ 2000; omega) HM5.out).mono ?_; rintro e w6 ⟨hb6, hcs2⟩
      have HB6 := Lib.hid (HB5.out.step hb6 HB5.out.size)
      have HM6 := Lib.hid ((HB6.out.cell (p := ⟨1, 0, none⟩) HW0.out).trans HM.out)
      have HA1c := Lib.hid (HA1b.out.step hb6)
      clear hb6 HM5 HB5 HA1 HA1b
      rcases hcs2 with ⟨_, p2, c2, rfl⟩ | ⟨L2, n2, p2, c2, hT2, hL2, hn2, rfl, hat2⟩
      · go_wp2_with fail
        go_ret
        exact ⟨rfl, HB6.out⟩
      · have HT2 := Lib.hid hT2; have HL2 := Lib.hid hL2; have HA2 := Lib.hid hat2.off
        have HX1 := Lib.hid (fun q hq => Nat.le_trans (tokens_texts HT1.out q hq) (show (bytes (I ++ { data := #[32, 46, 32] } ++ J ++ { data := #[32, 61, 32] } ++ more)).length ≤ 2000 by rw [bytes_len]; simp only [ByteArray.size_append]; show I.size + 3 + J.size + 3 + more.size ≤ 2000; omega))
        have HX2 := Lib.hid (fun q hq => Nat.le_trans (tokens_texts HT2.out q hq) (show (bytes (I ++ { data := #[32, 61, 32] } ++ more)).length ≤ 2000 by rw [bytes_len]; simp only [ByteArray.size_append]; show I.size + 3 + more.size ≤ 2000; omega))
        clear hT2 hL2 hat2
        obtain ⟨S1, k1, ⟨es1, ek1⟩, hS1, hz1, hq1⟩ := took_cases L1
        obtain ⟨S2, k2, ⟨es2, ek2⟩, hS2, hz2, hq2⟩ := took_cases L2
        have hs1 : S1.size ≤ 4001 := by rw [hz1]; exact takeB_size HX1.out
        have hs2 : S2.size ≤ 4001 := by rw [hz2]; exact takeB_size HX2.out
        have HES1 := Lib.hid es1; have HEK1 := Lib.hid ek1; have HS1 := Lib.hid hS1
        have HES2 := Lib.hid es2; have HEK2 := Lib.hid ek2; have HS2 := Lib.hid hS2
        have HFA := Lib.hid (fun h => takes_a HIE.out HT2.out h)
        have HFB := Lib.hid (fun h1 h2 => takes_ab HIE.out HJE.out HT1.out h1 h2)
        clear es1 ek1 hS1 hz1 es2 ek2 hS2 hz2
        go_wp2_with fail
        refine (HK.out p1 L1 n1 c1 w6 HL1.out (by omega) HA1c.out HX1.out HM6.out).mono ?_; rintro e w7 ⟨rfl, hb7⟩
        rw [HES1.out, HEK1.out]
        have HB7 := Lib.hid (HB6.out.step hb7 HB6.out.size)
        have HM7 := Lib.hid ((HB7.out.cell (p := ⟨1, 0, none⟩) HW0.out).trans HM.out)
        have HA2b := Lib.hid (HA2.out.step hb7)
        clear hb7 HM6 HB6
        clear HA1c HA2
        go_wp2_with fail
        refine (HK.out p2 L2 n2 c2 w7 HL2.out (by omega) HA2b.out HX2.out HM7.out).mono ?_; rintro e w8 ⟨rfl, hb8⟩
        rw [HES2.out, HEK2.out]
        have HB8 := Lib.hid (HB7.out.step hb8 HB7.out.size)
        have HM8 := Lib.hid ((HB8.out.cell (p := ⟨1, 0, none⟩) HW0.out).trans HM.out)
        clear hb8 HM7 HB7
        clear HA2b
        cases ga : goodB (bytes a) with
        | false =>
          rcases hq1 with h1 | ⟨h1, hg1⟩
          · rcases hq2 with h2 | ⟨h2, hg2⟩
            · go_wp2_with fail
              refine (HG.out a w8 (by omega) HM8.out).mono ?_; rintro e w9 ⟨rfl, hb9⟩
              rw [ga]
              have HB9 := Lib.hid (HB8.out.step (below_drew hb9) HB8.out.size)
              have HM9 := Lib.hid ((HB9.out.cell (p := ⟨1, 0, none⟩) HW0.out).trans HM.out)
              clear hb9 HM8 HB8
              go_wp2_with fail
              refine (HG.out a w9 (by omega) HM9.out).mono ?_; rintro e w10 ⟨rfl, hb10⟩
              rw [ga]
              have HB10 := Lib.hid (HB9.out.step (below_drew hb10) HB9.out.size)
              have HM10 := Lib.hid ((HB10.out.cell (p := ⟨1, 0, none⟩) HW0.out).trans HM.out)
              clear hb10 HM9 HB9
              go_wp2_with fail
              go_ret
              exact ⟨rfl, HB10.out⟩
            · go_wp2_with fail
              refine (HG.out a w8 (by omega) HM8.out).mono ?_; rintro e w9 ⟨rfl, hb9⟩
              rw [ga]
              have HB9 := Lib.hid (HB8.out.step (below_drew hb9) HB8.out.size)
              have HM9 := Lib.hid ((HB9.out.cell (p := ⟨1, 0, none⟩) HW0.out).trans HM.out)
              clear hb9 HM8 HB8
              go_wp2_with fail
              refine (HG.out a w9 (by omega) HM9.out).mono ?_; rintro e w10 ⟨rfl, hb10⟩
              rw [ga]
              have HB10 := Lib.hid (HB9.out.step (below_drew hb10) HB9.out.size)
              have HM10 := Lib.hid ((HB10.out.cell (p := ⟨1, 0, none⟩) HW0.out).trans HM.out)
              clear hb10 HM9 HB9
              go_wp2_with fail
              refine (HG.out S2 w10 (by omega) HM10.out).mono ?_; rintro e w11 ⟨rfl, hb11⟩
              rw [hg2]
              have HB11 := Lib.hid (HB10.out.step (below_drew hb11) HB10.out.size)
              have HM11 := Lib.hid ((HB11.out.cell (p := ⟨1, 0, none⟩) HW0.out).trans HM.out)
              clear hb11 HM10 HB10
              go_wp2_with fail
              go_ret
              exact ⟨rfl, HB11.out⟩
          · rcases hq2 with h2 | ⟨h2, hg2⟩
            · go_wp2_with fail
              refine (HG.out a w8 (by omega) HM8.out).mono ?_; rintro e w9 ⟨rfl, hb9⟩
              rw [ga]
              have HB9 := Lib.hid (HB8.out.step (below_drew hb9) HB8.out.size)
              have HM9 := Lib.hid ((HB9.out.cell (p := ⟨1, 0, none⟩) HW0.out).trans HM.out)
              clear hb9 HM8 HB8
              go_wp2_with fail
              refine (HG.out a w9 (by omega) HM9.out).mono ?_; rintro e w10 ⟨rfl, hb10⟩
              rw [ga]
              have HB10 := Lib.hid (HB9.out.step (below_drew hb10) HB9.out.size)
              have HM10 := Lib.hid ((HB10.out.cell (p := ⟨1, 0, none⟩) HW0.out).trans HM.out)
              clear hb10 HM9 HB9
              go_wp2_with fail
              refine (HG.out S1 w10 (by omega) HM10.out).mono ?_; rintro e w11 ⟨rfl, hb11⟩
              rw [hg1]
              have HB11 := Lib.hid (HB10.out.step (below_drew hb11) HB10.out.size)
              have HM11 := Lib.hid ((HB11.out.cell (p := ⟨1, 0, none⟩) HW0.out).trans HM.out)
              clear hb11 HM10 HB10
              go_wp2_with fail
              go_ret
              exact ⟨rfl, HB11.out⟩
            · go_wp2_with fail
              refine (HG.out a w8 (by omega) HM8.out).mono ?_; rintro e w9 ⟨rfl, hb9⟩
              rw [ga]
              have HB9 := Lib.hid (HB8.out.step (below_drew hb9) HB8.out.size)
              have HM9 := Lib.hid ((HB9.out.cell (p := ⟨1, 0, none⟩) HW0.out).trans HM.out)
              clear hb9 HM8 HB8
              go_wp2_with fail
              refine (HG.out a w9 (by omega) HM9.out).mono ?_; rintro e w10 ⟨rfl, hb10⟩
              rw [ga]
              have HB10 := Lib.hid (HB9.out.step (below_drew hb10) HB9.out.size)
              have HM10 := Lib.hid ((HB10.out.cell (p := ⟨1, 0, none⟩) HW0.out).trans HM.out)
              clear hb10 HM9 HB9
              go_wp2_with fail
              refine (HG.out S1 w10 (by omega) HM10.out).mono ?_; rintro e w11 ⟨rfl, hb11⟩
              rw [hg1]
              have HB11 := Lib.hid (HB10.out.step (below_drew hb11) HB10.out.size)
              have HM11 := Lib.hid ((HB11.out.cell (p := ⟨1, 0, none⟩) HW0.out).trans HM.out)
              clear hb11 HM10 HB10
              go_wp2_with fail
              refine (HG.out S2 w11 (by omega) HM11.out).mono ?_; rintro e w12 ⟨rfl, hb12⟩
              rw [hg2]
              have HB12 := Lib.hid (HB11.out.step (below_drew hb12) HB11.out.size)
              have HM12 := Lib.hid ((HB12.out.cell (p := ⟨1, 0, none⟩) HW0.out).trans HM.out)
              clear hb12 HM11 HB11
              go_wp2_with fail
              go_ret
              exact ⟨rfl, HB12.out⟩
        | true =>
          have hA := HFA.out ga
          rw [hA] at HS2 HEK2
          obtain rfl : (1 : Int) = k2 := HEK2.out
          obtain rfl : a = S2 := by
            apply ByteArray.ext
            have := congrArg List.toArray HS2.out
            simpa [bytes] using this.symm
          have hg2 := ga
          clear hA hq2 HES2
          cases gb : goodB (bytes b) with
          | false =>
            rcases hq1 with h1 | ⟨h1, hg1⟩
            · go_wp2_with fail
              refine (HG.out a w8 (by omega) HM8.out).mono ?_; rintro e w9 ⟨rfl, hb9⟩
              rw [ga]
              have HB9 := Lib.hid (HB8.out.step (below_drew hb9) HB8.out.size)
              have HM9 := Lib.hid ((HB9.out.cell (p := ⟨1, 0, none⟩) HW0.out).trans HM.out)
              clear hb9 HM8 HB8
              go_wp2_with fail
              refine (HG.out b w9 (by omega) HM9.out).mono ?_; rintro e w10 ⟨rfl, hb10⟩
              rw [gb]
              have HB10 := Lib.hid (HB9.out.step (below_drew hb10) HB9.out.size)
              have HM10 := Lib.hid ((HB10.out.cell (p := ⟨1, 0, none⟩) HW0.out).trans HM.out)
              clear hb10 HM9 HB9
              go_wp2_with fail
              refine (HG.out a w10 (by omega) HM10.out).mono ?_; rintro e w11 ⟨rfl, hb11⟩
              rw [ga]
              have HB11 := Lib.hid (HB10.out.step (below_drew hb11) HB10.out.size)
              have HM11 := Lib.hid ((HB11.out.cell (p := ⟨1, 0, none⟩) HW0.out).trans HM.out)
              clear hb11 HM10 HB10
              go_wp2_with fail
              refine (HG.out a w11 (by omega) HM11.out).mono ?_; rintro e w12 ⟨rfl, hb12⟩
              rw [hg2]
              have HB12 := Lib.hid (HB11.out.step (below_drew hb12) HB11.out.size)
              have HM12 := Lib.hid ((HB12.out.cell (p := ⟨1, 0, none⟩) HW0.out).trans HM.out)
              clear hb12 HM11 HB11
              go_wp2_with fail
              go_ret
              exact ⟨rfl, HB12.out⟩
            · go_wp2_with fail
              refine (HG.out a w8 (by omega) HM8.out).mono ?_; rintro e w9 ⟨rfl, hb9⟩
              rw [ga]
              have HB9 := Lib.hid (HB8.out.step (below_drew hb9) HB8.out.size)
              have HM9 := Lib.hid ((HB9.out.cell (p := ⟨1, 0, none⟩) HW0.out).trans HM.out)
              clear hb9 HM8 HB8
              go_wp2_with fail
              refine (HG.out b w9 (by omega) HM9.out).mono ?_; rintro e w10 ⟨rfl, hb10⟩
              rw [gb]
              have HB10 := Lib.hid (HB9.out.step (below_drew hb10) HB9.out.size)
              have HM10 := Lib.hid ((HB10.out.cell (p := ⟨1, 0, none⟩) HW0.out).trans HM.out)
              clear hb10 HM9 HB9
              go_wp2_with fail
              refine (HG.out a w10 (by omega) HM10.out).mono ?_; rintro e w11 ⟨rfl, hb11⟩
              rw [ga]
              have HB11 := Lib.hid (HB10.out.step (below_drew hb11) HB10.out.size)
              have HM11 := Lib.hid ((HB11.out.cell (p := ⟨1, 0, none⟩) HW0.out).trans HM.out)
              clear hb11 HM10 HB10
              go_wp2_with fail
              refine (HG.out S1 w11 (by omega) HM11.out).mono ?_; rintro e w12 ⟨rfl, hb12⟩
              rw [hg1]
              have HB12 := Lib.hid (HB11.out.step (below_drew hb12) HB11.out.size)
              have HM12 := Lib.hid ((HB12.out.cell (p := ⟨1, 0, none⟩) HW0.out).trans HM.out)
              clear hb12 HM11 HB11
              go_wp2_with fail
              refine (HG.out a w12 (by omega) HM12.out).mono ?_; rintro e w13 ⟨rfl, hb13⟩
              rw [hg2]
              have HB13 := Lib.hid (HB12.out.step (below_drew hb13) HB12.out.size)
              have HM13 := Lib.hid ((HB13.out.cell (p := ⟨1, 0, none⟩) HW0.out).trans HM.out)
              clear hb13 HM12 HB12
              go_wp2_with fail
              go_ret
              exact ⟨rfl, HB13.out⟩
          | true =>
            cases gab : goodB (bytes (a ++ { data := #[46] } ++ b)) with
            | false =>
              rcases hq1 with h1 | ⟨h1, hg1⟩
              · go_wp2_with fail
                refine (HG.out a w8 (by omega) HM8.out).mono ?_; rintro e w9 ⟨rfl, hb9⟩
                rw [ga]
                have HB9 := Lib.hid (HB8.out.step (below_drew hb9) HB8.out.size)
                have HM9 := Lib.hid ((HB9.out.cell (p := ⟨1, 0, none⟩) HW0.out).trans HM.out)
                clear hb9 HM8 HB8
                go_wp2_with fail
                refine (HG.out b w9 (by omega) HM9.out).mono ?_; rintro e w10 ⟨rfl, hb10⟩
                rw [gb]
                have HB10 := Lib.hid (HB9.out.step (below_drew hb10) HB9.out.size)
                have HM10 := Lib.hid ((HB10.out.cell (p := ⟨1, 0, none⟩) HW0.out).trans HM.out)
                clear hb10 HM9 HB9
                go_wp2_with fail
                refine (HG.out _ w10 (by simp only [ByteArray.size_append]; show a.size + 1 + b.size ≤ 100000; omega) HM10.out).mono ?_; rintro e w11 ⟨rfl, hb11⟩
                rw [gab]
                have HB11 := Lib.hid (HB10.out.step (below_drew hb11) HB10.out.size)
                have HM11 := Lib.hid ((HB11.out.cell (p := ⟨1, 0, none⟩) HW0.out).trans HM.out)
                clear hb11 HM10 HB10
                go_wp2_with fail
                refine (HG.out a w11 (by omega) HM11.out).mono ?_; rintro e w12 ⟨rfl, hb12⟩
                rw [ga]
                have HB12 := Lib.hid (HB11.out.step (below_drew hb12) HB11.out.size)
                have HM12 := Lib.hid ((HB12.out.cell (p := ⟨1, 0, none⟩) HW0.out).trans HM.out)
                clear hb12 HM11 HB11
                go_wp2_with fail
                refine (HG.out a w12 (by omega) HM12.out).mono ?_; rintro e w13 ⟨rfl, hb13⟩
                rw [hg2]
                have HB13 := Lib.hid (HB12.out.step (below_drew hb13) HB12.out.size)
                have HM13 := Lib.hid ((HB13.out.cell (p := ⟨1, 0, none⟩) HW0.out).trans HM.out)
                clear hb13 HM12 HB12
                go_wp2_with fail
                go_ret
                exact ⟨rfl, HB13.out⟩
              · go_wp2_with fail
                refine (HG.out a w8 (by omega) HM8.out).mono ?_; rintro e w9 ⟨rfl, hb9⟩
                rw [ga]
                have HB9 := Lib.hid (HB8.out.step (below_drew hb9) HB8.out.size)
                have HM9 := Lib.hid ((HB9.out.cell (p := ⟨1, 0, none⟩) HW0.out).trans HM.out)
                clear hb9 HM8 HB8
                go_wp2_with fail
                refine (HG.out b w9 (by omega) HM9.out).mono ?_; rintro e w10 ⟨rfl, hb10⟩
                rw [gb]
                have HB10 := Lib.hid (HB9.out.step (below_drew hb10) HB9.out.size)
                have HM10 := Lib.hid ((HB10.out.cell (p := ⟨1, 0, none⟩) HW0.out).trans HM.out)
                clear hb10 HM9 HB9
                go_wp2_with fail
                refine (HG.out _ w10 (by simp only [ByteArray.size_append]; show a.size + 1 + b.size ≤ 100000; omega) HM10.out).mono ?_; rintro e w11 ⟨rfl, hb11⟩
                rw [gab]
                have HB11 := Lib.hid (HB10.out.step (below_drew hb11) HB10.out.size)
                have HM11 := Lib.hid ((HB11.out.cell (p := ⟨1, 0, none⟩) HW0.out).trans HM.out)
                clear hb11 HM10 HB10
                go_wp2_with fail
                refine (HG.out a w11 (by omega) HM11.out).mono ?_; rintro e w12 ⟨rfl, hb12⟩
                rw [ga]
                have HB12 := Lib.hid (HB11.out.step (below_drew hb12) HB11.out.size)
                have HM12 := Lib.hid ((HB12.out.cell (p := ⟨1, 0, none⟩) HW0.out).trans HM.out)
                clear hb12 HM11 HB11
                go_wp2_with fail
                refine (HG.out S1 w12 (by omega) HM12.out).mono ?_; rintro e w13 ⟨rfl, hb13⟩
                rw [hg1]
                have HB13 := Lib.hid (HB12.out.step (below_drew hb13) HB12.out.size)
                have HM13 := Lib.hid ((HB13.out.cell (p := ⟨1, 0, none⟩) HW0.out).trans HM.out)
                clear hb13 HM12 HB12
                go_wp2_with fail
                refine (HG.out a w13 (by omega) HM13.out).mono ?_; rintro e w14 ⟨rfl, hb14⟩
                rw [hg2]
                have HB14 := Lib.hid (HB13.out.step (below_drew hb14) HB13.out.size)
                have HM14 := Lib.hid ((HB14.out.cell (p := ⟨1, 0, none⟩) HW0.out).trans HM.out)
                clear hb14 HM13 HB13
                go_wp2_with fail
                go_ret
                exact ⟨rfl, HB14.out⟩
            | true =>
              have hB := HFB.out ga gab
              rw [hB] at HS1 HEK1
              obtain rfl : (3 : Int) = k1 := HEK1.out
              have hSe : S1 = a ++ { data := #[46] } ++ b := by
                apply ByteArray.ext
                apply Array.ext'
                rw [show S1.data.toList = bytes S1 from rfl, HS1.out]
                simp [bytes]
              subst hSe
              have hg1 := gab
              clear hB hq1 HES1
              go_wp2_with fail
              refine (HG.out a w8 (by omega) HM8.out).mono ?_; rintro e w9 ⟨rfl, hb9⟩
              rw [ga]
              have HB9 := Lib.hid (HB8.out.step (below_drew hb9) HB8.out.size)
              have HM9 := Lib.hid ((HB9.out.cell (p := ⟨1, 0, none⟩) HW0.out).trans HM.out)
              clear hb9 HM8 HB8
              go_wp2_with fail
              refine (HG.out b w9 (by omega) HM9.out).mono ?_; rintro e w10 ⟨rfl, hb10⟩
              rw [gb]
              have HB10 := Lib.hid (HB9.out.step (below_drew hb10) HB9.out.size)
              have HM10 := Lib.hid ((HB10.out.cell (p := ⟨1, 0, none⟩) HW0.out).trans HM.out)
              clear hb10 HM9 HB9
              go_wp2_with fail
              refine (HG.out _ w10 (by simp only [ByteArray.size_append]; show a.size + 1 + b.size ≤ 100000; omega) HM10.out).mono ?_; rintro e w11 ⟨rfl, hb11⟩
              rw [gab]
              have HB11 := Lib.hid (HB10.out.step (below_drew hb11) HB10.out.size)
              have HM11 := Lib.hid ((HB11.out.cell (p := ⟨1, 0, none⟩) HW0.out).trans HM.out)
              clear hb11 HM10 HB10
              go_wp2_with fail
              refine (HG.out a w11 (by omega) HM11.out).mono ?_; rintro e w12 ⟨rfl, hb12⟩
              rw [ga]
              have HB12 := Lib.hid (HB11.out.step (below_drew hb12) HB11.out.size)
              have HM12 := Lib.hid ((HB12.out.cell (p := ⟨1, 0, none⟩) HW0.out).trans HM.out)
              clear hb12 HM11 HB11
              go_wp2_with fail
              refine (HG.out _ w12 (by omega) HM12.out).mono ?_; rintro e w13 ⟨rfl, hb13⟩
              rw [hg1]
              have HB13 := Lib.hid (HB12.out.step (below_drew hb13) HB12.out.size)
              have HM13 := Lib.hid ((HB13.out.cell (p := ⟨1, 0, none⟩) HW0.out).trans HM.out)
              clear hb13 HM12 HB12
              go_wp2_with fail
              refine (HG.out a w13 (by omega) HM13.out).mono ?_; rintro e w14 ⟨rfl, hb14⟩
              rw [hg2]
              have HB14 := Lib.hid (HB13.out.step (below_drew hb14) HB13.out.size)
              have HM14 := Lib.hid ((HB14.out.cell (p := ⟨1, 0, none⟩) HW0.out).trans HM.out)
              clear hb14 HM13 HB13
              go_wp2_with fail
              go_ret
              exact ⟨rfl, HB14.out⟩
  · have hl' : (900 : Int) < (a.size : Int) + b.size + more.size := by omega
    go_enter Tryd.func7, Tryd.ntmps7
    go_wp2_with fail
    refine HSH.out.mono ?_; rintro e w1 ⟨rfl, hb1⟩
    have HB1 := Lib.hid hb1
    clear hb1 HSH
    go_wp2_with fail
    go_ret
    exact ⟨rfl, HB1.out⟩

set_option maxRecDepth 100000 in
theorem takes_lifted (os : Os) (started : os.Started) (H : Type) (enc : TypeId × Value → H) :
    ReturnsInHanded {} Tryd.checked os 7 .any (fun w args => (Rows.namesTakesSpec.pre enc Tryd.prog Tryd.f7 Rows.namesTakesRow.domain false w args ∧ laidMetH Tryd.prog [("unicode/utf8.acceptRanges", Rows.laid_unicode_utf8_acceptRanges), ("taxirank/names.taken", Rows.laid_taxirank_names_taken), ("unicode/utf8.first", Rows.laid_unicode_utf8_first)] w) ∧ sizedMet enc Tryd.prog Tryd.f7 (OpenSpec.ofChange Rows.namesTakesSpec) false w args) (Rows.namesTakesSpec.post enc Tryd.prog Tryd.f7 false true false false) := by
  refine handed_laid (C := Tryd.checked) (X := fun w _ => laidMetH Tryd.prog [("unicode/utf8.acceptRanges", Rows.laid_unicode_utf8_acceptRanges), ("taxirank/names.taken", Rows.laid_taxirank_names_taken), ("unicode/utf8.first", Rows.laid_unicode_utf8_first)] w) (fun _ _ _ hh h => h.of_heap hh) own started (by kernel_rfl) Tryd.func7
    (ChangeSpec.witness_shaped (enc := enc) (C := Tryd.checked) (os := os) (X := fun w _ => laidMetH Tryd.prog [("unicode/utf8.acceptRanges", Rows.laid_unicode_utf8_acceptRanges), ("taxirank/names.taken", Rows.laid_taxirank_names_taken), ("unicode/utf8.first", Rows.laid_unicode_utf8_first)] w) false (World.laidAll Tryd.prog os [("unicode/utf8.acceptRanges", Rows.laid_unicode_utf8_acceptRanges), ("taxirank/names.taken", Rows.laid_taxirank_names_taken), ("unicode/utf8.first", Rows.laid_unicode_utf8_first)]) #[.string { data := #[] }, .string { data := #[] }, .string { data := #[] }] 8 (World.laidAll_os _ _ _) (World.shaped_of_ZipB (by kernel_rfl) (by kernel_rfl)) (by kernel_rfl) (by kernel_rfl) (by kernel_rfl)
      (by rw [MakeChecks.laidMetH_plain _ _ _ (by kernel_rfl)]; exact laidMet_laidAll _ (by kernel_rfl) (by kernel_rfl))) ?_
  intro W base args ds gs before hval0 hW hsz0 hsh hL
  obtain ⟨m, hm⟩ : ∃ m, W.cell? ⟨1, 0, none⟩ = some (.int .i64 m) := Tryd.laysM143.s1_3 W hsh
  have hT := taken_of_laid hL
  have hsz : (DataW.weightsEach Tryd.prog (Tryd.f7.params.toList ++ Rows.namesTakesSpec.plain.varTypes Tryd.prog) (ds ++ gs)).all (· ≤ reachBytes) = true := hsz0
  clear hsz0
  have hval : ∀ (j : Nat) t v, Tryd.f7.params[j]? = some t → args[j]? = some v → Value.okWide Tryd.prog W .any base t v := hval0
  have hW' := hW
  obtain ⟨p, q, hA0, hV, rfl, _, _⟩ := hW
  have hA : DataW.TrodAll enc Tryd.prog W 0 (fun _ => true) true Tryd.f7.params.toList args.toList ds p := hA0
  rw [Tryd.params7] at hA hval hsz
  obtain ⟨v0, v1, v2, d0, d1, d2, p0, p1, p2, rfl, rfl, rfl, h0, h1, h2⟩ := trodAll_three hA
  obtain ⟨rfl, rfl⟩ := trodVars_none hV
  obtain ⟨a, rfl, rfl, rfl, hl_a⟩ := Go.ChangeMaps.open_string Tryd.underlying9 (hval 0 9 v0 rfl rfl) h0
  have hz_a : a.size ≤ 140737488351232 := by have := sized_string hsz (j := 0) (t := 9) rfl rfl; rw [size_list] at this; exact this
  obtain ⟨b, rfl, rfl, rfl, hl_b⟩ := Go.ChangeMaps.open_string Tryd.underlying9 (hval 1 9 v1 rfl rfl) h1
  have hz_b : b.size ≤ 140737488351232 := by have := sized_string hsz (j := 1) (t := 9) rfl rfl; rw [size_list] at this; exact this
  obtain ⟨more, rfl, rfl, rfl, hl_more⟩ := Go.ChangeMaps.open_string Tryd.underlying9 (hval 2 9 v2 rfl rfl) h2
  have hz_more : more.size ≤ 140737488351232 := by have := sized_string hsz (j := 2) (t := 9) rfl rfl; rw [size_list] at this; exact this
  refine (takes_ok a b more m W hz_a hz_b hz_more hm hT).mono fun e W' ⟨he, hb⟩ => ?_
  subst he
  exact ⟨_, rfl, law_shut laidOut (by kernel_rfl) (by kernel_rfl) Tryd.underlying4 rfl hW' rfl hb⟩

theorem takes_holds : Rows.NamesTakesSaid :=
  OpenClaim.holds_of_wide 7 Tryd.f7 rfl rfl rfl rfl rfl rfl rfl ⟨rfl, rfl, rfl, rfl, rfl⟩ rfl rfl rfl rfl rfl (by kernel_rfl) Tryd.func7 (by kernel_rfl)
    (of_decide_eq_true (by kernel_rfl)) (by unfold Func.isWrapper; rw [if_neg (of_decide_eq_false (by kernel_rfl))]; exact ⟨rfl, rfl⟩)
    (fun os started H enc _ => takes_lifted os started H enc)

theorem takes_card : Rows.NamesTakesCardSaid :=
  Claim7.holds_tied_plain_at .later [] [.data, .data, .pinned] true _ false takes_holds (fun _ h => by cases h) (by kernel_rfl) (fun _ h => by cases h) namesTakes_row_tie rfl ⟨rfl, rfl⟩ (by kernel_rfl) rfl
    (fun f fn hf hfn => by
      obtain rfl : f = 7 := Option.some.inj ((show Tryd.prog.funcNamed "taxirank/taxiranklaw7.NamesTakes" = some 7 by kernel_rfl).symm.trans hf) |>.symm
      obtain rfl : fn = Tryd.f7 := (Option.some.inj (Tryd.func7.symm.trans hfn)).symm
      exact ⟨by kernel_rfl, fun j t ht => by
        rw [Tryd.params7] at ht
        have hm : t ∈ [9, 9, 9] := by simpa using Array.mem_of_getElem? ht
        have hall : ([9, 9, 9].all fun u => !Tryd.prog.wantsStandIn u) = true := by kernel_rfl
        exact (show Tryd.prog.wantsStandIn t = false by simpa using List.all_eq_true.1 hall t hm)⟩)
    (by kernel_rfl)
end Go.Proofs.YtalnflfafapicaaDoor
