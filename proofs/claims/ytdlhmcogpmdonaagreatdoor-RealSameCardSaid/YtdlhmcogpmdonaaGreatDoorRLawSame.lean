/- Noughts that say nothing change no form; a sign is that of the form: RealSame answers true, whatever two numbers it is called with. (Over the listed tables of the library, tied to the program's text.) -/
import Derived.Test.YtdlhmcogpmdonaaGreatDoorRCard
import Derived.Test.YtdlhmcogpmdonaaGreatDoorRShown
import Derived.Test.YtdlhmcogpmdonaaGreatDoorRTextsB
namespace Go.Proofs.YtdlhmcogpmdonaaGreatDoor
open Go.RowKit Go.Lib Go.WideShapes Go.ChangeShapes Go.ChangeAt Go.Joins

/-- What is left of the digits of a number when noughts are taken off. -/
structure Left (v : Nat) (W P : Bs) : Prop where
  dw : ∀ c ∈ W, isDg c
  dp : ∀ c ∈ P, isDg c
  w1 : 1 ≤ W.length
  w9 : W.length ≤ 9
  p6 : P.length ≤ 6
  hw : headZ W = headZ (pad 9 (v / 1000000))
  hp : trimZ P = trimZ (pad 6 v)
theorem Left.start (v : Nat) : Left v (pad 9 (v / 1000000)) (pad 6 v) := ⟨pad_dg _ _, pad_dg _ _, by rw [pad_length]; decide, by rw [pad_length]; exact Nat.le_refl _, by rw [pad_length]; exact Nat.le_refl _, rfl, rfl⟩
theorem Left.ok {v : Nat} {W P : Bs} (h : Left v W P) : (Dcm.mk W true P).ok := ⟨h.dw, h.dp, (fun e => by cases e), Nat.le_trans h.w1 (Nat.le_add_right _ _), h.w9, h.p6⟩
theorem Left.form {v : Nat} {W P : Bs} (h : Left v W P) (hv : v < 1000000000000000) (s : Bool) : canonB (.fin s (Dcm.mk W true P).mil) = canonB (.fin s v) := by
  have h2 := canon_fin (dm_ok v) s
  rw [dm_mil hv] at h2
  rw [canon_fin h.ok s, h2]
  show _ ++ ((if headZ W = [] then [48] else headZ W) ++ (if trimZ P = [] then [] else 46 :: trimZ P)) = _ ++ ((if headZ (pad 9 (v / 1000000)) = [] then [48] else headZ (pad 9 (v / 1000000))) ++ (if trimZ (pad 6 v) = [] then [] else 46 :: trimZ (pad 6 v)))
  rw [h.hw, h.hp]
theorem Left.head {v : Nat} {l P : Bs} (h : Left v (48 :: l) P) (hl : l ≠ []) : Left v l P := ⟨fun c hc => h.dw c (List.mem_cons_of_mem _ hc), h.dp, List.length_pos_iff.2 hl, by have := h.w9; rw [List.length_cons] at this; omega, h.p6, by rw [← h.hw, headZ_cons], h.hp⟩
theorem Left.last {v : Nat} {W l : Bs} (h : Left v W (l ++ [48])) : Left v W l := ⟨h.dw, fun c hc => h.dp c (List.mem_append_left _ hc), h.w1, h.w9, by have := h.p6; rw [List.length_append] at this; omega, h.hw, by rw [← h.hp, trimZ_zero]⟩
theorem Left.plain {v : Nat} {W P : Bs} (h : Left v W P) (hv : v < 1000000000000000) (sg : Bs) (hs : Sgn sg) (l : Bs) (hl : l = sg ++ (W ++ 46 :: P)) : cS l = canonB (.fin (sgB sg) v) ∧ cE l = 0 := by
  have hn := num_of sg hs h.ok
  have ht : (Dcm.mk W true P).text = W ++ 46 :: P := rfl
  rw [ht, ← hl] at hn
  exact ⟨by rw [cS_num hn, h.form hv], cE_num hn⟩
set_option maxRecDepth 100000 in
set_option maxHeartbeats 16000000 in
theorem same_walk (w : World) (n k : Int) (hT : Tabs w) (hw : 1 ≤ w.heap.size) (hn : -9223372036854775808 ≤ n ∧ n ≤ 9223372036854775807) (hk : -9223372036854775808 ≤ k ∧ k ≤ 9223372036854775807) :
    Calls Tryz.prog 7 #[.int .i64 n, .int .i64 k] w fun e w' => e = .returned (.bool true) ∧ Below w.heap.size w w' := by
  have HSH := Lib.hid (fun W hT hw => shown_any W hT hw)
  have HT := Lib.hid hT
  clear hT
  have KT := Lib.hid (fun W => txt_at n W hn)
  have hv := magI_lt n
  clear hn
  generalize magI n = v at KT hv
  generalize negI n = neg at KT
  obtain ⟨k1, k2⟩ := hk
  obtain ⟨K, hK⟩ : ∃ u : Nat, (u : Int) = if k < 0 then -(k + 1) else k := ⟨(if k < 0 then -(k + 1) else k).toNat, by split <;> omega⟩
  have hKl : (K : Int) ≤ 9223372036854775807 := by split at hK <;> omega
  have HK := Lib.hid hK
  clear hK
  obtain ⟨S, hS⟩ : ∃ S : ByteArray, S = ⟨(txt neg v).toArray⟩ := ⟨_, rfl⟩
  have bS : bytes S = txt neg v := by rw [hS, bytes_mk]
  have zS : S.size ≤ 17 := by rw [← bytes_len, bS]; exact txt_len _ _
  rw [← hS] at KT
  have nS := txt_num neg hv
  rw [← bS] at nS
  have kc := fun W hT hw => canon_at S W hT hw (by omega)
  rw [cS_num nS, cE_num nS] at kc
  obtain ⟨A, hA⟩ : ∃ A : ByteArray, A = ⟨(canonB (.fin neg v)).toArray⟩ := ⟨_, rfl⟩
  rw [← hA] at kc
  have KA := Lib.hid kc
  have HA := Lib.hid hA
  have HV := Lib.hid hv
  obtain ⟨D, hD⟩ : ∃ D : ByteArray, D = ⟨((dm v).text).toArray⟩ := ⟨_, rfl⟩
  have HD := Lib.hid (show bytes D = pad 9 (v / 1000000) ++ 46 :: pad 6 v by rw [hD, bytes_mk]; rfl)
  have h0 : 0 < S.size := by
    rw [← bytes_len, bS]; unfold txt; rw [List.length_append]; have := (dm_ok v).pos; omega
  have h0' : (0 : Int) < S.size := by omega
  have h1' : (1 : Int) ≤ S.size := by omega
  have HF : Hid ((neg = true ∧ (((S[0]'h0).toNat : Int) == 45) = true ∧ S.extract 1 S.size = D) ∨ (neg = false ∧ (((S[0]'h0).toNat : Int) == 45) = false ∧ S = D)) := Lib.hid (by
    cases neg with
    | true =>
      left
      have hl : bytes S = 45 :: (dm v).text := bS
      obtain ⟨_, hc⟩ := head_of hl
      exact ⟨rfl, by rw [hc]; rfl, str_eq ((bytes_extract S 1).trans (by rw [hl, hD, bytes_mk]; rfl))⟩
    | false =>
      right
      have hl : bytes S = (dm v).text := bS
      obtain ⟨c, t, hct⟩ : ∃ c t, (dm v).text = c :: t := by
        cases he : (dm v).text with
        | nil => have := (dm_ok v).pos; rw [he] at this; cases this
        | cons c t => exact ⟨c, t, rfl⟩
      obtain ⟨_, hc⟩ := head_of (hl.trans hct)
      have hb := (dm_ok v).byte (c := c) (by rw [hct]; exact List.mem_cons_self)
      exact ⟨rfl, by rw [beq_eq_false_iff_ne, hc]; omega, str_eq (by rw [hl, hD, bytes_mk])⟩)
  obtain ⟨q4, hq4⟩ : ∃ q, q = K % 4 := ⟨_, rfl⟩
  obtain ⟨q5, hq5⟩ : ∃ q, q = K % 5 := ⟨_, rfl⟩
  have hm4 : (K : Int) % 4 = (q4 : Nat) := by omega
  have hm5 : (K : Int) % 5 = (q5 : Nat) := by omega
  have hl4 : q4 < 4 := by omega
  have hl5 : q5 < 5 := by omega
  have HLS := Lib.hid (Left.start v)
  clear hS bS nS kc hA hv hD hq4 hq5
  go_enter Tryz.func7, Tryz.ntmps7
  go_wp2_with fail
  refine (HSH.out _ HT.out hw).mono ?_; rintro e w1 ⟨rfl, hb⟩
  have H1 := Lib.hid hb
  clear hb
  go_wp2_with fail
  refine (KT.out _).mono ?_; rintro e w2 ⟨rfl, hb⟩
  have H2 := Lib.hid (H1.out.on hb)
  clear hb
  go_wp2_with fail
  refine (KA.out _ (HT.out.step H2.out) (Nat.le_trans hw H2.out.size)).mono ?_; rintro e w3 ⟨rfl, hb⟩
  have H3 := Lib.hid (H2.out.on hb)
  clear hb
  go_upto_if 31 with (fail)
  go_cut [9] (fun x wx => x = .int .i64 K ∧ wx = w3)
  case first =>
    by_cases h : k < 0
    · have HX := Lib.hid (show -(k + 1) = (K : Int) by rw [HK.out, if_pos h])
      go_wp2_with fail
      go_meet
      exact ⟨by rw [HX.out], rfl⟩
    · have HX := Lib.hid (show k = (K : Int) by rw [HK.out, if_neg h])
      have h' : 0 ≤ k := by omega
      clear h
      go_wp2_with fail
      go_meet
      exact ⟨by rw [HX.out], rfl⟩
  case rest =>
    obtain ⟨rfl, rfl⟩ := hcut
    go_upto_if 38 with (fail)
    go_cut [10] (fun x wx => x = .string D ∧ wx = wc)
    case first =>
      rcases HF.out with ⟨_, h45, hE⟩ | ⟨_, h45, hE⟩
      · have HE := Lib.hid hE
        clear hE
        go_wp2_with fail
        go_meet
        exact ⟨by rw [HE.out], rfl⟩
      · have HE := Lib.hid hE
        clear hE
        go_wp2_with fail
        go_meet
        exact ⟨by rw [HE.out], rfl⟩
    case rest =>
      obtain ⟨rfl, rfl⟩ := hcut
      go_step
      go_step
      go_cut [10] (fun x wx => ∃ (Q : ByteArray) (W : Bs), x = .string Q ∧ bytes Q = W ++ 46 :: pad 6 v ∧ Left v W (pad 6 v) ∧ wx = wc)
      case first =>
        go_wp2_with fail
        go_loopg [10, 11] 4 (fun g x y wr => ∃ (i : Nat) (Q : ByteArray) (W : Bs), x = .string Q ∧ y = .int .i64 i ∧ i ≤ 3 ∧ g = 4 - i ∧ bytes Q = W ++ 46 :: pad 6 v ∧ Left v W (pad 6 v) ∧ wr = wc)
        case atStart => exact ⟨0, D, _, rfl, rfl, by decide, rfl, HD.out, HLS.out, rfl⟩
        case round =>
          obtain ⟨i, Q, W, rfl, rfl, hi, hg, hQ, hL, rfl⟩ := hrel
          have HGG := Lib.hid hg
          have HQ := Lib.hid hQ
          have HL := Lib.hid hL
          clear hg
          have zQ : Q.size ≤ 16 := by
            rw [← bytes_len, hQ, List.length_append, List.length_cons, pad_length]; have := hL.w9; omega
          by_cases hlt : i < q4
          · have hlt' : (i : Int) < q4 := by omega
            cases W with
            | nil => exact absurd hL.w1 (by decide)
            | cons c l =>
              obtain ⟨hk0, hc0⟩ := text_at (k := 0) (c := c) hQ rfl
              have hk0' : (0 : Int) < Q.size := by omega
              have hk1' : (1 : Int) ≤ Q.size := by omega
              by_cases h48 : c = 48
              · subst h48
                have hcx : (Q[0]'hk0).toNat = 48 := hc0
                cases l with
                | nil =>
                  obtain ⟨hk1, hc1⟩ := text_at (k := 1) (c := 46) hQ rfl
                  have hcy : (Q[1]'hk1).toNat = 46 := hc1
                  have hk2' : (1 : Int) < Q.size := by omega
                  clear hQ hL hc0 hc1
                  go_wp2_with fail
                  go_meet
                  exact ⟨Q, _, rfl, HQ.out, HL.out, rfl⟩
                | cons e t =>
                  obtain ⟨hk1, hc1⟩ := text_at (k := 1) (c := e) hQ rfl
                  have hde := hL.dw e (by simp)
                  unfold isDg at hde
                  have hcy : (((Q[1]'hk1).toNat : Int) == 46) = false := by rw [beq_eq_false_iff_ne, hc1]; omega
                  have hcy2 : (((Q[1]'hk1).toNat : Int) != 46) = true := by rw [bne_iff_ne, hc1]; omega
                  have hk2' : (1 : Int) < Q.size := by omega
                  have HB := Lib.hid (show bytes (Q.extract 1 Q.size) = (e :: t) ++ 46 :: pad 6 v by rw [bytes_extract, hQ]; rfl)
                  have HL2 := Lib.hid (hL.head (by simp))
                  clear hQ hL hc0 hc1 hde
                  go_wp2_with fail
                  go_roundg (4 - (i + 1))
                  case measure => have := HGG.out; omega
                  case rel => exact ⟨i + 1, _, _, rfl, by go_num, by omega, rfl, HB.out, HL2.out, rfl⟩
              · have hdc := hL.dw c (by simp)
                have n48 : (((Q[0]'hk0).toNat : Int) == 48) = false := by
                  rw [beq_eq_false_iff_ne, hc0]
                  intro e
                  have e2 : c.toNat = (48 : UInt8).toNat := by rw [show (48 : UInt8).toNat = 48 from rfl]; omega
                  exact h48 (UInt8.toNat_inj.1 e2)
                clear hQ hL hc0 hdc h48
                go_wp2_with fail
                go_meet
                exact ⟨Q, _, rfl, HQ.out, HL.out, rfl⟩
          · have hge : (q4 : Int) ≤ i := by omega
            clear hlt hQ hL
            go_wp2_with fail
            go_meet
            exact ⟨Q, _, rfl, HQ.out, HL.out, rfl⟩
      case rest =>
        obtain ⟨Q1, W, rfl, hQ1, hL1, rfl⟩ := hcut
        have HQ1 := Lib.hid hQ1; have HL1 := Lib.hid hL1
        clear hQ1 hL1
        go_step
        go_step
        go_cut [10] (fun x wx => ∃ (Q : ByteArray) (P : Bs), x = .string Q ∧ bytes Q = W ++ 46 :: P ∧ Left v W P ∧ wx = wc)
        case first =>
          go_wp2_with fail
          go_loopg [10, 12] 5 (fun g x y wr => ∃ (i : Nat) (Q : ByteArray) (P : Bs), x = .string Q ∧ y = .int .i64 i ∧ i ≤ 4 ∧ g = 5 - i ∧ bytes Q = W ++ 46 :: P ∧ Left v W P ∧ wr = wc)
          case atStart => exact ⟨0, Q1, _, rfl, rfl, by decide, rfl, HQ1.out, HL1.out, rfl⟩
          case round =>
            obtain ⟨i, Q, P, rfl, rfl, hi, hg, hQ, hL, rfl⟩ := hrel
            have HGG := Lib.hid hg
            have HQ := Lib.hid hQ
            have HL := Lib.hid hL
            clear hg
            have zQ1 : Q.size = W.length + (P.length + 1) := by rw [← bytes_len, hQ, List.length_append, List.length_cons]
            have zQ : Q.size ≤ 16 := by have := hL.w9; have := hL.p6; omega
            have hk1' : (1 : Int) ≤ Q.size := by omega
            have hk0' : (0 : Int) < Q.size := by omega
            have hkl : Q.size - 1 < Q.size := by omega
            by_cases hlt : i < q5
            · have hlt' : (i : Int) < q5 := by omega
              rcases List.eq_nil_or_concat P with rfl | ⟨l, c, rfl⟩
              · obtain ⟨_, hc⟩ := text_at (k := Q.size - 1) (c := 46) hQ (by rw [zQ1, List.length_nil, Nat.zero_add, Nat.add_sub_cancel, List.getElem?_append_right (Nat.le_refl _), Nat.sub_self]; rfl)
                have hcx : (Q[Q.size - 1]'hkl).toNat = 46 := hc
                clear hQ hL hc zQ1
                go_wp2_with fail
                go_meet
                exact ⟨Q, _, rfl, HQ.out, HL.out, rfl⟩
              · rw [List.concat_eq_append] at hQ hL HQ HL zQ1
                have hQ2 : bytes Q = (W ++ 46 :: l) ++ [c] := by rw [hQ]; simp
                have hz2 : Q.size = (W ++ 46 :: l).length + 1 := by rw [← bytes_len, hQ2, List.length_append]; rfl
                obtain ⟨_, hc⟩ := text_at (k := Q.size - 1) (c := c) hQ2 (by rw [hz2, Nat.add_sub_cancel, List.getElem?_append_right (Nat.le_refl _), Nat.sub_self]; rfl)
                by_cases h48 : c = 48
                · subst h48
                  have hcx : (Q[Q.size - 1]'hkl).toNat = 48 := hc
                  have HB := Lib.hid (show bytes (Q.extract 0 (Q.size - 1)) = W ++ 46 :: l by rw [bytes_ext0, hQ2, hz2, Nat.add_sub_cancel, List.take_left])
                  have HL2 := Lib.hid hL.last
                  clear hQ hL hc hQ2 hz2 zQ1
                  go_wp2_with fail
                  go_roundg (5 - (i + 1))
                  case measure => have := HGG.out; omega
                  case rel => exact ⟨i + 1, _, _, rfl, by go_num, by omega, rfl, HB.out, HL2.out, rfl⟩
                · have n48 : (((Q[Q.size - 1]'hkl).toNat : Int) == 48) = false := by
                    rw [beq_eq_false_iff_ne, hc]
                    intro e
                    have e2 : c.toNat = (48 : UInt8).toNat := by rw [show (48 : UInt8).toNat = 48 from rfl]; omega
                    exact h48 (UInt8.toNat_inj.1 e2)
                  clear hQ hL hc hQ2 hz2 zQ1 h48
                  go_wp2_with fail
                  go_meet
                  exact ⟨Q, _, rfl, HQ.out, HL.out, rfl⟩
            · have hge : (q5 : Int) ≤ i := by omega
              clear hlt hQ hL zQ1
              go_wp2_with fail
              go_meet
              exact ⟨Q, _, rfl, HQ.out, HL.out, rfl⟩
        case rest =>
          obtain ⟨Q, P, rfl, hQ, hL, rfl⟩ := hcut
          have zQ : Q.size ≤ 16 := by
            rw [← bytes_len, hQ, List.length_append, List.length_cons]; have := hL.w9; have := hL.p6; omega
          have zM : (({ data := #[45] } : ByteArray) ++ Q).size ≤ 17 := by rw [← bytes_len, bytes_cat, List.length_append, bytes_len Q]; show 1 + Q.size ≤ 17; omega
          have zP : (({ data := #[43] } : ByteArray) ++ Q).size ≤ 17 := by rw [← bytes_len, bytes_cat, List.length_append, bytes_len Q]; show 1 + Q.size ≤ 17; omega
          obtain ⟨s1, e1⟩ := hL.plain HV.out [] (.inl rfl) (bytes Q) hQ
          obtain ⟨s2, e2⟩ := hL.plain HV.out [45] (.inr (.inr rfl)) (bytes ({ data := #[45] } ++ Q)) (by rw [bytes_cat, hQ]; first | done | rfl)
          obtain ⟨s3, e3⟩ := hL.plain HV.out [43] (.inr (.inl rfl)) (bytes ({ data := #[43] } ++ Q)) (by rw [bytes_cat, hQ]; first | done | rfl)
          have k3 := fun W hT hw => canon_at Q W hT hw (by omega)
          have k4 := fun W hT hw => canon_at ({ data := #[45] } ++ Q) W hT hw (by omega)
          have k5 := fun W hT hw => canon_at ({ data := #[43] } ++ Q) W hT hw (by omega)
          rw [s1, e1] at k3
          rw [s2, e2] at k4
          rw [s3, e3] at k5
          rw [show sgB [] = false from rfl] at k3
          rw [show sgB [45] = true from rfl] at k4
          rw [show sgB [43] = false from rfl] at k5
          have hlC : (canonB (.fin false v)).length ≤ 17 := canon_short HV.out
          have hneg : canonB (.fin true v) = 45 :: canonB (.fin false v) := rfl
          rw [hneg] at k4
          obtain ⟨C, hC⟩ : ∃ C : ByteArray, C = ⟨(canonB (.fin false v)).toArray⟩ := ⟨_, rfl⟩
          have zC : C.size ≤ 17 := by rw [hC, size_mk]; exact hlC
          have hM : (⟨(45 :: canonB (.fin false v)).toArray⟩ : ByteArray) = { data := #[45] } ++ C := str_eq (by rw [bytes_mk, bytes_cat, hC, bytes_mk]; rfl)
          rw [hM] at k4
          rw [← hC] at k3 k5
          have K3 := Lib.hid k3; have K4 := Lib.hid k4; have K5 := Lib.hid k5
          have hfin : (neg = true ∧ (((S[0]'h0).toNat : Int) == 45) = true ∧ A = { data := #[45] } ++ C) ∨ (neg = false ∧ (((S[0]'h0).toNat : Int) == 45) = false ∧ A = C) := by
            rcases HF.out with ⟨hn, h45, _⟩ | ⟨hn, h45, _⟩
            · exact .inl ⟨hn, h45, by rw [HA.out, hn, hneg, hM]⟩
            · exact .inr ⟨hn, h45, by rw [HA.out, hn, hC]⟩
          have HFIN := Lib.hid hfin
          clear hfin hM hC hneg hlC k3 k4 k5 s1 s2 s3 e1 e2 e3 hQ hL zM zP HF
          go_wp2_with fail
          refine (K3.out _ (HT.out.step H3.out) (Nat.le_trans hw H3.out.size)).mono ?_; rintro e w4 ⟨rfl, hb⟩
          have H4 := Lib.hid (H3.out.on hb)
          clear hb
          go_wp2_with fail
          refine (K4.out _ (HT.out.step H4.out) (Nat.le_trans hw H4.out.size)).mono ?_; rintro e w5 ⟨rfl, hb⟩
          have H5 := Lib.hid (H4.out.on hb)
          clear hb
          go_wp2_with fail
          refine (K5.out _ (HT.out.step H5.out) (Nat.le_trans hw H5.out.size)).mono ?_; rintro e w6 ⟨rfl, hb⟩
          have H6 := Lib.hid (H5.out.on hb)
          clear hb
          go_upto_region 25 with (fail)
          rcases HFIN.out with ⟨_, h45, hAC⟩ | ⟨_, h45, hAC⟩
          · subst hAC
            have h45n : (((S[0]'h0).toNat : Int) != 45) = false := by rw [bne, h45]; rfl
            have hne : (({ data := #[45] } ++ C : ByteArray).toList == C.toList) = false := by
              rw [beq_eq_false_iff_ne, Lib.toList_data, Lib.toList_data]
              intro e
              have e2 : bytes ({ data := #[45] } ++ C) = bytes C := e
              have e3 := congrArg List.length e2
              rw [bytes_cat, List.length_append] at e3
              have : (bytes ({ data := #[45] } : ByteArray)).length = 1 := rfl
              omega
            have h45' : (S[0]'h0).toNat = 45 := by have := beq_iff_eq.1 h45; omega
            go_wp2_with fail
            go_ret
            exact ⟨rfl, H6.out⟩
          · subst hAC
            have h45n : (((S[0]'h0).toNat : Int) != 45) = true := by rw [bne, h45]; rfl
            go_wp2_with fail
            go_ret
            exact ⟨rfl, H6.out⟩

set_option maxRecDepth 100000 in
theorem same_lifted (os : Os) (started : os.Started) (H : Type) (enc : TypeId × Value → H) :
    ReturnsInHanded {} Tryz.checked os 7 .any (fun w args => (Rows.realSameSpec.pre enc Tryz.prog Tryz.f7 Rows.realSameRow.domain false w args ∧ laidMetH Tryz.prog laidL w) ∧ sizedMet enc Tryz.prog Tryz.f7 (OpenSpec.ofChange Rows.realSameSpec) false w args) (Rows.realSameSpec.post enc Tryz.prog Tryz.f7 false true false false) := by
  refine handed_laid (C := Tryz.checked) (X := fun w _ => laidMetH Tryz.prog laidL w) (fun _ _ _ hh h => h.of_heap hh) own started (by kernel_rfl) Tryz.func7
    (ChangeSpec.witness_shaped (enc := enc) (C := Tryz.checked) (os := os) (X := fun w _ => laidMetH Tryz.prog laidL w) false (World.laidAll Tryz.prog os laidL) #[.int .i64 0, .int .i64 0] 8 (World.laidAll_os _ _ _) (World.shaped_of_ZipB (by kernel_rfl) (by kernel_rfl)) (by kernel_rfl) (by kernel_rfl) (by kernel_rfl)
      (by rw [MakeChecks.laidMetH_plain _ _ _ (by kernel_rfl)]; exact laidMet_laidAll _ (by kernel_rfl) (by kernel_rfl))) ?_
  intro W base args ds gs before hval0 hW hsz0 hsh hL
  obtain ⟨m, hm⟩ : ∃ m, W.cell? ⟨4, 0, none⟩ = some (.int .i64 m) := Tryz.laysM145.s1_3 W hsh
  have hT := tabs_of_laid ⟨m, hm⟩ hL
  have hw : 1 ≤ W.heap.size := Nat.lt_of_le_of_lt (Nat.zero_le _) (World.block_lt_of_cell? W ⟨4, 0, none⟩ hm)
  have hsz : (DataW.weightsEach Tryz.prog (Tryz.f7.params.toList ++ Rows.realSameSpec.plain.varTypes Tryz.prog) (ds ++ gs)).all (· ≤ reachBytes) = true := hsz0
  clear hsz0
  have hval : ∀ (j : Nat) t v, Tryz.f7.params[j]? = some t → args[j]? = some v → Value.okWide Tryz.prog W .any base t v := hval0
  have hW' := hW
  obtain ⟨p, q, hA0, hV, rfl, _, _⟩ := hW
  have hA : DataW.TrodAll enc Tryz.prog W 0 (fun _ => true) true Tryz.f7.params.toList args.toList ds p := hA0
  rw [Tryz.params7] at hA hval hsz
  obtain ⟨v0, v1, d0, d1, p0, p1, rfl, rfl, rfl, h0, h1⟩ := trodAll_two hA
  obtain ⟨rfl, rfl⟩ := trodVars_none hV
  obtain ⟨x, rfl, rfl, rfl, wf_x⟩ := open_int Tryz.underlying3 (hval 0 3 v0 rfl rfl) h0
  have h_x := int_range wf_x
  obtain ⟨y, rfl, rfl, rfl, wf_y⟩ := open_int Tryz.underlying3 (hval 1 3 v1 rfl rfl) h1
  have h_y := int_range wf_y
  refine (same_walk W x y hT hw h_x h_y).mono fun e W' ⟨he, hb⟩ => ?_
  subst he
  exact ⟨_, rfl, law_shut laidOut (by kernel_rfl) (by kernel_rfl) Tryz.underlying4 rfl hW' rfl hb⟩

theorem same_holds : Rows.RealSameSaid :=
  OpenClaim.holds_of_wide 7 Tryz.f7 rfl rfl rfl rfl rfl rfl rfl ⟨rfl, rfl, rfl, rfl, rfl⟩ rfl rfl rfl rfl rfl (by kernel_rfl) Tryz.func7 (by kernel_rfl)
    (of_decide_eq_true (by kernel_rfl)) (by unfold Func.isWrapper; rw [if_neg (of_decide_eq_false (by kernel_rfl))]; exact ⟨rfl, rfl⟩)
    (fun os started H enc _ => same_lifted os started H enc)

theorem same_card : Rows.RealSameCardSaid :=
  Claim7.holds_tied_plain_at .later [] [.data, .data, .widerDeep, .widerDeep, .data, .data, .data, .data, .data, .data, .sentinel, .sentinel, .pinned, .pinned, .pinned] true _ true same_holds (fun _ h => by cases h) (by kernel_rfl) (fun _ h => by cases h) realSame_row_tie rfl ⟨rfl, rfl⟩ (by kernel_rfl) rfl
    (fun f fn hf hfn => by
      obtain rfl : f = 7 := Option.some.inj ((show Tryz.prog.funcNamed "taxirank/taxiranklaw5.RealSame" = some 7 by kernel_rfl).symm.trans hf) |>.symm
      obtain rfl : fn = Tryz.f7 := (Option.some.inj (Tryz.func7.symm.trans hfn)).symm
      exact ⟨by kernel_rfl, fun j t ht => by
        rw [Tryz.params7] at ht
        have hm : t ∈ [3, 3] := by simpa using Array.mem_of_getElem? ht
        have hall : ([3, 3].all fun u => !Tryz.prog.wantsStandIn u) = true := by kernel_rfl
        exact (show Tryz.prog.wantsStandIn t = false by simpa using List.all_eq_true.1 hall t hm)⟩)
    (by kernel_rfl)
end Go.Proofs.YtdlhmcogpmdonaaGreatDoor
