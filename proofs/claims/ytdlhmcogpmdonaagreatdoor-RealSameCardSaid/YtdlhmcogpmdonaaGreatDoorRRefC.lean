/- The document's form of a number. -/
import Derived.Test.YtdlhmcogpmdonaaGreatDoorRRef
namespace Go.Proofs.YtdlhmcogpmdonaaGreatDoor
open Go.RowKit Go.Lib Go.WideShapes

theorem bytes_cat (a b : ByteArray) : bytes (a ++ b) = bytes a ++ bytes b := by
  show (a ++ b).data.toList = a.data.toList ++ b.data.toList
  simp [ByteArray.data_append]
theorem bytes_ext0 (s : ByteArray) (k : Nat) : bytes (s.extract 0 k) = (bytes s).take k := by
  show (s.extract 0 k).data.toList = _
  rw [ByteArray.data_extract, Array.toList_extract, List.extract_eq_take_drop, List.drop_zero, Nat.sub_zero]
def sgT (l : Bs) : Bs := if sgB (sgnOf l) = true then [45] else []
set_option maxRecDepth 100000 in
set_option maxHeartbeats 16000000 in
theorem rcanon_any (s : ByteArray) (w : World) (hs : s.size ≤ 1000000) :
    Calls Tryz.prog 12 #[.string s] w fun e w' => e = .returned (canonV (bytes s)) ∧ Below w.heap.size w w' := by
  obtain ⟨V, hV⟩ : ∃ V, V = canonV (bytes s) := ⟨_, rfl⟩
  rw [← hV]
  have hnp := num_plain (bytes s)
  have hrl := rest_len (bytes s)
  rw [bytes_len] at hrl
  obtain ⟨T, hT⟩ : ∃ T : ByteArray, T = ⟨(restOf (bytes s)).toArray⟩ := ⟨_, rfl⟩
  have hbT : bytes T = restOf (bytes s) := by rw [hT, bytes_mk]
  have hTs : T.size ≤ s.size := by rw [← bytes_len, hbT]; exact hrl
  obtain ⟨SG, hSG⟩ : ∃ SG : ByteArray, SG = ⟨(sgT (bytes s)).toArray⟩ := ⟨_, rfl⟩
  have hSGs : SG.size ≤ 1 := by rw [hSG, size_mk]; unfold sgT; split <;> decide
  have HFO := Lib.hid (fun W => reffold_wide T W (by omega))
  rw [hbT] at HFO
  have HV := Lib.hid hV
  go_enter Tryz.func12, Tryz.ntmps12
  obtain ⟨sb, hsb⟩ : ∃ sb, sb = !(sgnOf (bytes s)).isEmpty := ⟨_, rfl⟩
  have HSB := Lib.hid hsb
  clear hsb
  go_upto_region 3 with (fail)
  go_cut [23] (fun x wx => x = .bool sb ∧ wx = w)
  case first =>
    clear hnp hrl hT hbT hTs hSG hSGs HFO HV hV
    cases hl : bytes s with
    | nil =>
      have hemp : s.toList.isEmpty = true := by rw [Lib.toList_data]; show (bytes s).isEmpty = true; rw [hl]; rfl
      have HSV := Lib.hid (show false = sb by rw [HSB.out, hl]; rfl)
      clear hl
      go_wp2_with fail
      go_meet
      exact ⟨by rw [HSV.out], rfl⟩
    | cons c l =>
      obtain ⟨h0, hc⟩ := head_of hl
      have hemp : s.toList.isEmpty = false := by rw [Lib.toList_data]; show (bytes s).isEmpty = false; rw [hl]; rfl
      have h0' : (0 : Int) < s.size := by omega
      by_cases h43 : c = 43
      · subst h43
        have HSV := Lib.hid (show true = sb by rw [HSB.out, hl]; rfl)
        have hcx : (s[0]'h0).toNat = 43 := hc
        clear hl hc
        go_wp2_with fail
        go_meet
        exact ⟨by rw [HSV.out], rfl⟩
      · by_cases h45 : c = 45
        · subst h45
          have HSV := Lib.hid (show true = sb by rw [HSB.out, hl]; rfl)
          have hcx : (s[0]'h0).toNat = 45 := hc
          clear hl hc
          go_wp2_with fail
          go_meet
          exact ⟨by rw [HSV.out], rfl⟩
        · have HSV := Lib.hid (show false = sb by rw [HSB.out, hl, sgn_cons, if_neg (by simp [h43, h45])]; rfl)
          have n1 : (((s[0]'h0).toNat : Int) == 43) = false := by
            rw [beq_eq_false_iff_ne, hc]
            intro e
            have e2 : c.toNat = (43 : UInt8).toNat := by rw [show (43 : UInt8).toNat = 43 from rfl]; omega
            exact h43 (UInt8.toNat_inj.1 e2)
          have n2 : (((s[0]'h0).toNat : Int) == 45) = false := by
            rw [beq_eq_false_iff_ne, hc]
            intro e
            have e2 : c.toNat = (45 : UInt8).toNat := by rw [show (45 : UInt8).toNat = 45 from rfl]; omega
            exact h45 (UInt8.toNat_inj.1 e2)
          clear hl hc h43 h45
          go_wp2_with fail
          go_meet
          exact ⟨by rw [HSV.out], rfl⟩
  case rest =>
    obtain ⟨rfl, rfl⟩ := hcut
    go_upto_if 23 with (fail)
    go_cut [4, 5] (fun x y wx => x = .string SG ∧ y = .string T ∧ wx = wc)
    case first =>
      have hse := sgn_rest (bytes s)
      have hsg := sgn_of (bytes s)
      clear hnp HFO HV hV hrl
      rcases hsg with e | e | e
      · rw [e] at hse
        have hsv : sb = false := by rw [HSB.out, e]; rfl
        subst hsv
        clear HSB
        have hTe : T = s := str_eq (by rw [hbT]; exact hse)
        have hSe : SG = { data := #[] } := by rw [hSG]; unfold sgT; rw [e]; rfl
        subst hTe hSe
        clear hse e hT hbT hSG
        go_wp2_with fail
        go_meet
        exact ⟨rfl, rfl, rfl⟩
      · rw [e] at hse
        have hsv : sb = true := by rw [HSB.out, e]; rfl
        subst hsv
        clear HSB
        obtain ⟨h0, hc⟩ := head_of hse.symm
        have hcx : (s[0]'h0).toNat = 43 := hc
        have h1' : (1 : Int) ≤ s.size := by omega
        have h0' : (0 : Int) < s.size := by omega
        have hTe : T = s.extract 1 s.size := str_eq (by rw [hbT, bytes_extract]; unfold restOf; rw [e]; rfl)
        have hSe : SG = { data := #[] } := by rw [hSG]; unfold sgT; rw [e]; rfl
        subst hTe hSe
        clear hse e hT hbT hSG hc
        go_wp2_with fail
        go_meet
        exact ⟨rfl, rfl, rfl⟩
      · rw [e] at hse
        have hsv : sb = true := by rw [HSB.out, e]; rfl
        subst hsv
        clear HSB
        obtain ⟨h0, hc⟩ := head_of hse.symm
        have hcx : (s[0]'h0).toNat = 45 := hc
        have h1' : (1 : Int) ≤ s.size := by omega
        have h0' : (0 : Int) < s.size := by omega
        have hTe : T = s.extract 1 s.size := str_eq (by rw [hbT, bytes_extract]; unfold restOf; rw [e]; rfl)
        have hSe : SG = { data := #[45] } := by rw [hSG]; unfold sgT; rw [e]; rfl
        subst hTe hSe
        clear hse e hT hbT hSG hc
        go_wp2_with fail
        go_meet
        exact ⟨rfl, rfl, rfl⟩
    case rest =>
      obtain ⟨rfl, rfl, rfl⟩ := hcut
      clear HSB
      have hse := sgn_rest (bytes s)
      by_cases hA : (restOf (bytes s)).map low = nanB ∧ sgnOf (bytes s) = []
      · obtain ⟨hA1, hA2⟩ := hA
        rw [if_pos hA1, if_pos hA2] at hnp
        have HVF := Lib.hid (show V = .tuple #[.string { data := #[78, 97, 78] }, .int .i64 0] by rw [hV, canonV_some hnp]; rfl)
        have hTe : T = s := str_eq (by rw [hbT]; rw [hA2] at hse; exact hse)
        rw [hA1] at HFO
        subst hTe
        clear hnp hrl hT hbT hTs hSG hSGs HV hV hse hA1 hA2
        go_wp2_with fail
        refine (HFO.out _).mono ?_; rintro e w1 ⟨rfl, hb⟩
        have H1 := Lib.hid hb
        clear hb
        go_wp2_with fail
        go_ret2
        exact ⟨by rw [HVF.out]; rfl, H1.out⟩
      by_cases hB : (restOf (bytes s)).map low = infB ∨ (restOf (bytes s)).map low = longB
      · have hnn : ¬ (restOf (bytes s)).map low = nanB := by rcases hB with e | e <;> rw [e] <;> decide
        rw [if_neg hnn, if_pos hB] at hnp
        have HVF := Lib.hid (show V = .tuple #[.string (SG ++ { data := #[73, 110, 102, 105, 110, 105, 116, 121] }), .int .i64 0] by
          rw [hV, canonV_some hnp]
          congr 4
          exact str_eq (by rw [bytes_mk, bytes_cat, hSG, bytes_mk]; unfold sgT canonB; rfl))
        have hS2 : SG.size + 8 ≤ 9 := by omega
        clear hnp hrl hT hbT hSG HV hV hse hA hnn
        rcases hB with e | e
        all_goals
          rw [e] at HFO
          clear e
          go_wp2_with fail
          refine (HFO.out _).mono ?_; rintro e w1 ⟨rfl, hb⟩
          have H1 := Lib.hid hb
          clear hb
          go_wp2_with fail
          go_ret2
          exact ⟨by rw [HVF.out]; rfl, H1.out⟩
      obtain ⟨L, hL⟩ : ∃ L : ByteArray, L = ⟨((restOf (bytes s)).map low).toArray⟩ := ⟨_, rfl⟩
      rw [← hL] at HFO
      have lb : ∀ k : Bs, (restOf (bytes s)).map low ≠ k → (L.toList == k) = false := fun k hk => by
        rw [hL, mk_data, beq_eq_false_iff_ne]; exact hk
      have n2 := lb [105, 110, 102] (fun e => hB (.inl e))
      have n3 := lb [105, 110, 102, 105, 110, 105, 116, 121] (fun e => hB (.inr e))
      have hz : (L.toList == [110, 97, 110]) = true → ((T.size : Int) == s.size) = false := by
        intro e
        rw [beq_iff_eq, hL, mk_data] at e
        have hne : sgnOf (bytes s) ≠ [] := fun h => hA ⟨e, h⟩
        have h1 := congrArg List.length hse
        rw [List.length_append, bytes_len, ← hbT, bytes_len] at h1
        have := List.length_pos_iff.2 hne
        rw [beq_eq_false_iff_ne]; omega
      have hnp2 : numB (bytes s) = if decB (restOf (bytes s)) = true then some (.fin (sgB (sgnOf (bytes s))) (dotOf (restOf (bytes s))).mil) else none := by
        rw [hnp]
        by_cases h : (restOf (bytes s)).map low = nanB
        · have hne : sgnOf (bytes s) ≠ [] := fun h' => hA ⟨h, h'⟩
          have hd : decB (restOf (bytes s)) = false := by rw [← dec_low, h]; rfl
          rw [if_pos h, if_neg hne, hd]; rfl
        · rw [if_neg h, if_neg hB]
      clear lb hnp hA hB hL hse
      obtain ⟨d, hd⟩ : ∃ d, d = dotOf (restOf (bytes s)) := ⟨_, rfl⟩
      obtain ⟨W, hW⟩ : ∃ W : ByteArray, W = ⟨d.w.toArray⟩ := ⟨_, rfl⟩
      obtain ⟨P, hP⟩ : ∃ P : ByteArray, P = ⟨d.p.toArray⟩ := ⟨_, rfl⟩
      have hbW : bytes W = d.w := by rw [hW, bytes_mk]
      have hbP : bytes P = d.p := by rw [hP, bytes_mk]
      have hWs : W.size = d.w.length := by rw [← bytes_len, hbW]
      have hPs : P.size = d.p.length := by rw [← bytes_len, hbP]
      have hlW : W.size ≤ T.size := by rw [hWs, ← bytes_len T, hbT, hd]; exact (List.takeWhile_sublist _).length_le
      have hlP : P.size ≤ T.size := by rw [hPs, ← bytes_len T, hbT, hd]; exact ((List.drop_sublist _ _).trans (List.dropWhile_sublist _)).length_le
      have HDW := Lib.hid (fun w => rdigits_any W w (by omega))
      have HDP := Lib.hid (fun w => rdigits_any P w (by omega))
      obtain ⟨dw, hdw⟩ : ∃ b, b = allD (bytes W) := ⟨_, rfl⟩
      obtain ⟨dp, hdp⟩ : ∃ b, b = allD (bytes P) := ⟨_, rfl⟩
      rw [← hdw] at HDW
      rw [← hdp] at HDP
      obtain ⟨W2, hW2⟩ : ∃ W2 : ByteArray, W2 = ⟨(headZ d.w).toArray⟩ := ⟨_, rfl⟩
      obtain ⟨P2, hP2⟩ : ∃ P2 : ByteArray, P2 = ⟨(trimZ d.p).toArray⟩ := ⟨_, rfl⟩
      have HCASE : Hid ((dw = true ∧ dp = true ∧ W.size ≤ 9 ∧ P.size ≤ 6 ∧ 1 ≤ W.size + P.size ∧ V = .tuple #[.string ⟨(sgT (bytes s) ++ ((if headZ d.w = [] then [48] else headZ d.w) ++ (if trimZ d.p = [] then [] else 46 :: trimZ d.p))).toArray⟩, .int .i64 0]) ∨ (V = .tuple #[.string { data := #[] }, .int .i64 9] ∧ (dw = false ∨ (dw = true ∧ dp = false) ∨ (dw = true ∧ dp = true ∧ 9 < W.size) ∨ (dw = true ∧ dp = true ∧ W.size ≤ 9 ∧ 6 < P.size) ∨ (dw = true ∧ dp = true ∧ W.size = 0 ∧ P.size = 0)))) := Lib.hid (by
        rw [← hd] at hnp2
        have hdec : decB (restOf (bytes s)) = (!(d.w.isEmpty && d.p.isEmpty) && (dgs d.w 9 && dgs d.p 6)) := by rw [hd]; rfl
        by_cases hD : decB (restOf (bytes s)) = true
        · left
          have ho := dec_ok hD
          rw [← hd] at ho
          rw [if_pos hD] at hnp2
          have hs1 := ho.some
          refine ⟨?_, ?_, by rw [hWs]; exact ho.w9, by rw [hPs]; exact ho.p6, by rw [hWs, hPs]; exact hs1, ?_⟩
          · rw [hdw, hbW]; unfold allD; rw [List.all_eq_true]; exact fun c hc => decide_eq_true (ho.dw c hc)
          · rw [hdp, hbP]; unfold allD; rw [List.all_eq_true]; exact fun c hc => decide_eq_true (ho.dp c hc)
          · rw [hV, canonV_some hnp2, canon_fin ho]; rfl
        · right
          rw [if_neg hD] at hnp2
          refine ⟨by rw [hV, canonV_none hnp2], ?_⟩
          rw [hdec] at hD
          unfold dgs at hD
          rw [← hWs, ← hPs] at hD
          have e1 : (d.w.all fun c => decide (isDg c)) = dw := by rw [hdw, hbW]; rfl
          have e2 : (d.p.all fun c => decide (isDg c)) = dp := by rw [hdp, hbP]; rfl
          rw [e1, e2] at hD
          cases dw with
          | false => exact .inl rfl
          | true =>
            cases dp with
            | false => exact .inr (.inl ⟨rfl, rfl⟩)
            | true =>
              right; right
              by_cases h9 : W.size ≤ 9
              · right
                by_cases h6 : P.size ≤ 6
                · right
                  rw [decide_eq_true h9, decide_eq_true h6] at hD
                  simp at hD
                  exact ⟨rfl, rfl, by rw [hWs, hD.1]; rfl, by rw [hPs, hD.2]; rfl⟩
                · exact .inl ⟨rfl, rfl, h9, by omega⟩
              · exact .inl ⟨rfl, rfl, by omega⟩)
      have HAT := Lib.hid (fun (k : Nat) (hk : k < T.size) (h0 : ∀ j, j < k → (bytes T)[j]? ≠ some 46) (h1 : (bytes T)[k]? = some 46) => show T.extract 0 k = W ∧ T.extract (k + 1) T.size = P by
        rw [hbT] at h0 h1
        obtain ⟨e1, e2⟩ := dot_at (t := restOf (bytes s)) (by rw [← hbT, bytes_len]; exact hk) h0 h1
        rw [← hd] at e1 e2
        exact ⟨str_eq (by rw [bytes_ext0, hbT, hbW, e1]), str_eq ((bytes_extract T (k + 1)).trans (by rw [hbT, hbP, e2]))⟩)
      have HNO := Lib.hid (fun (h0 : ∀ j, j < T.size → (bytes T)[j]? ≠ some 46) => show T = W ∧ ({ data := #[] } : ByteArray) = P by
        rw [hbT] at h0
        obtain ⟨e1, e2⟩ := dot_whole (t := restOf (bytes s)) (by rw [← bytes_len T, hbT] at h0; exact h0)
        rw [← hd] at e1 e2
        exact ⟨str_eq (by rw [hbT, hbW, e1]), str_eq (by rw [hbP, e2])⟩)
      have HSGB := Lib.hid (show bytes SG = sgT (bytes s) by rw [hSG, bytes_mk])
      have HW2 := Lib.hid (show bytes W2 = headZ (bytes W) by rw [hW2, bytes_mk, hbW])
      have HP2 := Lib.hid (show bytes P2 = trimZ (bytes P) by rw [hP2, bytes_mk, hbP])
      have HBW := Lib.hid hbW
      have HBP := Lib.hid hbP
      clear hW hP hbW hbP hWs hPs hdw hdp hd hnp2 hrl hT hSG hV HV hW2 hP2
      have HBT := Lib.hid hbT
      clear hbT
      have HZ := Lib.hid hz
      clear hz
      go_wp2_with fail
      refine (HFO.out _).mono ?_; rintro e w1 ⟨rfl, hb⟩
      have H1 := Lib.hid hb
      clear hb
      go_upto_region 8 with (fail)
      go_cut [39] (fun x wx => x = .bool false ∧ wx = w1)
      case first =>
        obtain ⟨z1, hz1⟩ : ∃ z, z = (L.toList == [110, 97, 110]) := ⟨_, rfl⟩
        have hz1' := hz1.symm
        cases z1 with
        | false =>
          clear hz1
          go_wp2_with fail
          go_meet
          exact ⟨rfl, rfl⟩
        | true =>
          have hz2 := HZ.out hz1'
          clear hz1
          go_wp2_with fail
          go_meet
          exact ⟨rfl, rfl⟩
      case rest =>
        obtain ⟨rfl, rfl⟩ := hcut
        clear HZ HFO
        go_upto_region 14 with (fail)
        clear n2 n3
        go_cut [9] (fun x wx => x = .bool false ∧ wx = wc)
        case first =>
          go_wp2_with fail
          go_meet
          exact ⟨rfl, rfl⟩
        case rest =>
          obtain ⟨rfl, rfl⟩ := hcut
          go_step
          go_step
          go_cut [7, 8] (fun x y wx => x = .string W ∧ y = .string P ∧ wx = wc)
          case first =>
            go_wp2_with fail
            go_loopg [7, 8, 9, 10] T.size (fun g x y z v wr => ∃ k : Nat, v = .int .i64 k ∧ k ≤ T.size ∧ g = T.size - k ∧ wr = wc ∧ ((x = .string T ∧ y = .string { data := #[] } ∧ z = .bool false ∧ ∀ j, j < k → (bytes T)[j]? ≠ some 46) ∨ (x = .string W ∧ y = .string P ∧ z = .bool true)))
            case atStart => exact ⟨0, rfl, Nat.zero_le _, rfl, rfl, .inl ⟨rfl, rfl, rfl, fun j h => absurd h (Nat.not_lt_zero _)⟩⟩
            case round =>
              obtain ⟨k, rfl, hk, hg, rfl, hst⟩ := hrel
              have HGG := Lib.hid hg
              clear hg
              rcases hst with ⟨rfl, rfl, rfl, h0⟩ | ⟨rfl, rfl, rfl⟩
              · by_cases hlt : k < T.size
                · have hlt' : (k : Int) < T.size := by omega
                  have hkl : k < (bytes T).length := by rw [bytes_len]; exact hlt
                  obtain ⟨c, hc⟩ : ∃ c, c = T[k].toNat := ⟨_, rfl⟩
                  have hgx : (bytes T)[k]? = some T[k] := by rw [List.getElem?_eq_getElem hkl]; rfl
                  have hc2 := hc.symm
                  by_cases h46 : c = 46
                  · have hk46 : T[k] = 46 := UInt8.toNat_inj.1 (by rw [← hc, h46]; rfl)
                    rw [hk46] at hgx
                    obtain ⟨eW, eP⟩ := HAT.out k hlt h0 hgx
                    have h46' : ((c : Int) == 46) = true := by rw [h46]; rfl
                    have HEW := Lib.hid eW; have HEP := Lib.hid eP
                    have hk1 : (k : Int) + 1 ≤ T.size := by omega
                    clear hc h46 hk46 hgx eW eP h0
                    go_wp2_with fail
                    go_roundg (T.size - (k + 1))
                    case measure => have := HGG.out; omega
                    case rel => exact ⟨k + 1, by go_num, by omega, rfl, rfl, .inr ⟨by rw [← HEW.out], by rw [← HEP.out]; try rfl, rfl⟩⟩
                  · have H0 := Lib.hid (show ∀ j, j < k + 1 → (bytes T)[j]? ≠ some 46 by
                      intro j hj
                      by_cases e : j = k
                      · subst e
                        rw [hgx]
                        intro e2
                        have e3 := congrArg UInt8.toNat (Option.some.inj e2)
                        rw [← hc] at e3
                        exact h46 e3
                      · exact h0 j (by omega))
                    have h46' : ((c : Int) == 46) = false := by rw [beq_eq_false_iff_ne]; omega
                    clear hc h46 hgx h0
                    go_wp2_with fail
                    go_roundg (T.size - (k + 1))
                    case measure => have := HGG.out; omega
                    case rel => exact ⟨k + 1, by go_num, by omega, rfl, rfl, .inl ⟨rfl, rfl, rfl, H0.out⟩⟩
                · obtain rfl : k = T.size := by omega
                  obtain ⟨eW, eP⟩ := HNO.out h0
                  have HEW := Lib.hid eW; have HEP := Lib.hid eP
                  clear hlt hk h0 HAT HNO eW eP
                  go_wp2_with fail
                  go_meet
                  exact ⟨by rw [HEW.out], by rw [HEP.out], rfl⟩
              · clear HAT HNO
                by_cases hlt : k < T.size
                · have hlt' : (k : Int) < T.size := by omega
                  clear hlt
                  go_wp2_with fail
                  go_meet
                  exact ⟨rfl, rfl, rfl⟩
                · obtain rfl : k = T.size := by omega
                  clear hlt
                  go_wp2_with fail
                  go_meet
                  exact ⟨rfl, rfl, rfl⟩
          case rest =>
            obtain ⟨rfl, rfl, rfl⟩ := hcut
            clear HAT HNO
            go_wp2_with fail
            refine (HDW.out _).mono ?_; rintro e w2 ⟨rfl, rfl⟩
            rcases HCASE.out with ⟨rfl, rfl, a1, a2, a3, hVF⟩ | ⟨hVF, hbad⟩
            · have HVF := Lib.hid hVF
              have a1' : (W.size : Int) ≤ 9 := by omega
              have a2' : (P.size : Int) ≤ 6 := by omega
              have a3' : ((W.size : Int) + P.size == 0) = false := by rw [beq_eq_false_iff_ne]; omega
              clear hVF
              go_wp2_with fail
              refine (HDP.out _).mono ?_; rintro e w2 ⟨rfl, rfl⟩
              go_upto_if 95 with (fail)
              go_cut [95] (fun x wx => wx = wc)
              case first =>
                go_wp2_with fail
                go_meet
                exact rfl
              case rest =>
                subst hcut
                go_step
                go_step
                go_cut [7] (fun x wx => x = .string W2 ∧ wx = wc)
                case first =>
                  go_wp2_with fail
                  go_loopg [7] W.size (fun g x wr' => ∃ X : ByteArray, x = .string X ∧ g = X.size ∧ X.size ≤ 9 ∧ headZ (bytes X) = headZ (bytes W) ∧ wr' = wc)
                  case atStart => exact ⟨W, rfl, rfl, a1, rfl, rfl⟩
                  case round =>
                    obtain ⟨X, rfl, hg, hX9, hZ, rfl⟩ := hrel
                    have HGG := Lib.hid hg
                    clear hg
                    cases hl : bytes X with
                    | nil =>
                      have hx0 : (X.size : Int) ≤ 0 := by rw [← bytes_len, hl]; decide
                      have HE := Lib.hid (show X = W2 from str_eq (by rw [HW2.out, ← hZ, hl]; rfl))
                      clear hl hZ
                      go_wp2_with fail
                      go_meet
                      exact ⟨by rw [HE.out], rfl⟩
                    | cons c l =>
                      obtain ⟨h0, hc⟩ := head_of hl
                      have h0' : (0 : Int) < X.size := by omega
                      have h1' : (1 : Int) ≤ X.size := by omega
                      by_cases h48 : c = 48
                      · subst h48
                        have hcx : (X[0]'h0).toNat = 48 := hc
                        have hbx : bytes (X.extract 1 X.size) = l := by rw [bytes_extract, hl]; rfl
                        have hsx : (X.extract 1 X.size).size = X.size - 1 := by rw [← bytes_len, hbx, ← bytes_len X, hl]; rfl
                        have HZ2 := Lib.hid (show headZ (bytes (X.extract 1 X.size)) = headZ (bytes W) by rw [hbx, ← hZ, hl, headZ_cons])
                        have HSX := Lib.hid hsx
                        clear hl hZ hc hbx hsx
                        go_wp2_with fail
                        go_roundg (X.size - 1)
                        case measure => have := HGG.out; omega
                        case rel => exact ⟨_, rfl, HSX.out.symm, by rw [HSX.out]; omega, HZ2.out, rfl⟩
                      · have n1 : (((X[0]'h0).toNat : Int) == 48) = false := by
                          rw [beq_eq_false_iff_ne, hc]
                          intro e
                          have e2 : c.toNat = (48 : UInt8).toNat := by rw [show (48 : UInt8).toNat = 48 from rfl]; omega
                          exact h48 (UInt8.toNat_inj.1 e2)
                        have HE := Lib.hid (show X = W2 from str_eq (by rw [HW2.out, ← hZ, hl, headZ_ne l h48]))
                        clear hl hZ hc h48
                        go_wp2_with fail
                        go_meet
                        exact ⟨by rw [HE.out], rfl⟩
                case rest =>
                  obtain ⟨rfl, rfl⟩ := hcut
                  go_step
                  go_step
                  go_cut [8] (fun x wx => x = .string P2 ∧ wx = wc)
                  case first =>
                    go_wp2_with fail
                    go_loopg [8] P.size (fun g x wr' => ∃ X : ByteArray, x = .string X ∧ g = X.size ∧ X.size ≤ 6 ∧ trimZ (bytes X) = trimZ (bytes P) ∧ wr' = wc)
                    case atStart => exact ⟨P, rfl, rfl, a2, rfl, rfl⟩
                    case round =>
                      obtain ⟨X, rfl, hg, hX9, hZ, rfl⟩ := hrel
                      have HGG := Lib.hid hg
                      clear hg
                      rcases List.eq_nil_or_concat (bytes X) with hl | ⟨l, c, hl⟩
                      · have hx0 : (X.size : Int) ≤ 0 := by rw [← bytes_len, hl]; decide
                        have HE := Lib.hid (show X = P2 from str_eq (by rw [HP2.out, ← hZ, hl]; rfl))
                        clear hl hZ
                        go_wp2_with fail
                        go_meet
                        exact ⟨by rw [HE.out], rfl⟩
                      · rw [List.concat_eq_append] at hl
                        have hxl : X.size = l.length + 1 := by rw [← bytes_len, hl, List.length_append]; rfl
                        obtain ⟨hk, hc⟩ := text_at (k := X.size - 1) (c := c) hl (by rw [hxl, Nat.add_sub_cancel, List.getElem?_append_right (Nat.le_refl _), Nat.sub_self]; rfl)
                        have h0' : (0 : Int) < X.size := by omega
                        have h1' : (1 : Int) ≤ X.size := by omega
                        have hkl : X.size - 1 < X.size := by omega
                        have hbx : bytes (X.extract 0 (X.size - 1)) = l := by rw [bytes_ext0, hl, hxl, Nat.add_sub_cancel, List.take_left]
                        have hsx : (X.extract 0 (X.size - 1)).size = X.size - 1 := by rw [← bytes_len, hbx]; omega
                        by_cases h48 : c = 48
                        · have HZ2 := Lib.hid (show trimZ (bytes (X.extract 0 (X.size - 1))) = trimZ (bytes P) by rw [hbx, ← hZ, hl, h48, trimZ_zero])
                          have HSX := Lib.hid hsx
                          have hcx2 : (X[X.size - 1]'hkl).toNat = 48 := by rw [hc, h48]; rfl
                          clear hl hZ hc hbx hsx hxl h48
                          go_wp2_with fail
                          go_roundg (X.size - 1)
                          case measure => have := HGG.out; omega
                          case rel => exact ⟨_, rfl, HSX.out.symm, by rw [HSX.out]; omega, HZ2.out, rfl⟩
                        · have n1 : (((X[X.size - 1]'hkl).toNat : Int) == 48) = false := by
                            rw [beq_eq_false_iff_ne, hc]
                            intro e
                            have e2 : c.toNat = (48 : UInt8).toNat := by rw [show (48 : UInt8).toNat = 48 from rfl]; omega
                            exact h48 (UInt8.toNat_inj.1 e2)
                          have HE := Lib.hid (show X = P2 from str_eq (by rw [HP2.out, ← hZ, hl, trimZ_ne l h48]))
                          clear hl hZ hc hbx hsx hxl h48
                          go_wp2_with fail
                          go_meet
                          exact ⟨by rw [HE.out], rfl⟩
                  case rest =>
                    obtain ⟨rfl, rfl⟩ := hcut
                    have hw2 : W2.size ≤ 9 := by
                      rw [← bytes_len, HW2.out]
                      have : (headZ (bytes W)).length ≤ (bytes W).length := (List.dropWhile_sublist _).length_le
                      rw [bytes_len] at this; omega
                    have hp2 : P2.size ≤ 6 := by
                      rw [← bytes_len, HP2.out]
                      have := trimZ_length (bytes P)
                      rw [bytes_len] at this; omega
                    have HEW := Lib.hid (show W2.toList.isEmpty = (headZ (bytes W)).isEmpty by rw [Lib.toList_data]; show (bytes W2).isEmpty = _; rw [HW2.out])
                    have HEP := Lib.hid (show P2.toList.isEmpty = (trimZ (bytes P)).isEmpty by rw [Lib.toList_data]; show (bytes P2).isEmpty = _; rw [HP2.out])
                    have HVG := Lib.hid (show V = .tuple #[.string ⟨(bytes SG ++ ((if bytes W2 = [] then [48] else bytes W2) ++ (if bytes P2 = [] then [] else 46 :: bytes P2))).toArray⟩, .int .i64 0] by rw [HVF.out, HSGB.out, HW2.out, HP2.out, HBW.out, HBP.out])
                    clear HVF
                    by_cases e1 : bytes W2 = [] <;> by_cases e2 : bytes P2 = []
                    · have HFIN := Lib.hid (show V = .tuple #[.string (SG ++ { data := #[48] }), .int .i64 0] by
                        rw [HVG.out, if_pos e1, if_pos e2]
                        congr 4
                        all_goals
                          refine (str_eq ?_)
                          rw [bytes_mk]
                          simp only [bytes_cat, List.append_assoc, List.append_nil]
                          try rfl)
                      have z1 : W2.toList.isEmpty = true := by rw [Lib.toList_data]; show (bytes W2).isEmpty = _; rw [e1]; first | done | rfl
                      have z2 : P2.toList.isEmpty = true := by rw [Lib.toList_data]; show (bytes P2).isEmpty = _; rw [e2]; first | done | rfl
                      clear e1 e2 HVG HEW HEP
                      go_wp2_with fail
                      go_ret2
                      exact ⟨by rw [HFIN.out]; rfl, H1.out⟩
                    · have HFIN := Lib.hid (show V = .tuple #[.string (SG ++ (({ data := #[48] } ++ { data := #[46] }) ++ P2)), .int .i64 0] by
                        rw [HVG.out, if_pos e1, if_neg e2]
                        congr 4
                        all_goals
                          refine (str_eq ?_)
                          rw [bytes_mk]
                          simp only [bytes_cat, List.append_assoc, List.append_nil]
                          try rfl)
                      have z1 : W2.toList.isEmpty = true := by rw [Lib.toList_data]; show (bytes W2).isEmpty = _; rw [e1]; first | done | rfl
                      have z2 : P2.toList.isEmpty = false := by rw [Lib.toList_data]; show (bytes P2).isEmpty = _; cases h : bytes P2 with
                        | nil => exact absurd h e2
                        | cons _ _ => rfl
                      clear e1 e2 HVG HEW HEP
                      go_wp2_with fail
                      go_ret2
                      exact ⟨by rw [HFIN.out]; rfl, H1.out⟩
                    · have HFIN := Lib.hid (show V = .tuple #[.string (SG ++ W2), .int .i64 0] by
                        rw [HVG.out, if_neg e1, if_pos e2]
                        congr 4
                        all_goals
                          refine (str_eq ?_)
                          rw [bytes_mk]
                          simp only [bytes_cat, List.append_nil]
                          try rfl)
                      have z1 : W2.toList.isEmpty = false := by rw [Lib.toList_data]; show (bytes W2).isEmpty = _; cases h : bytes W2 with
                        | nil => exact absurd h e1
                        | cons _ _ => rfl
                      have z2 : P2.toList.isEmpty = true := by rw [Lib.toList_data]; show (bytes P2).isEmpty = _; rw [e2]; first | done | rfl
                      clear e1 e2 HVG HEW HEP
                      go_wp2_with fail
                      go_ret2
                      exact ⟨by rw [HFIN.out]; rfl, H1.out⟩
                    · have HFIN := Lib.hid (show V = .tuple #[.string (SG ++ ((W2 ++ { data := #[46] }) ++ P2)), .int .i64 0] by
                        rw [HVG.out, if_neg e1, if_neg e2]
                        congr 4
                        all_goals
                          refine (str_eq ?_)
                          rw [bytes_mk]
                          simp only [bytes_cat, List.append_assoc]
                          try rfl)
                      have z1 : W2.toList.isEmpty = false := by rw [Lib.toList_data]; show (bytes W2).isEmpty = _; cases h : bytes W2 with
                        | nil => exact absurd h e1
                        | cons _ _ => rfl
                      have z2 : P2.toList.isEmpty = false := by rw [Lib.toList_data]; show (bytes P2).isEmpty = _; cases h : bytes P2 with
                        | nil => exact absurd h e2
                        | cons _ _ => rfl
                      clear e1 e2 HVG HEW HEP
                      go_wp2_with fail
                      go_ret2
                      exact ⟨by rw [HFIN.out]; rfl, H1.out⟩
            · have HVF := Lib.hid hVF
              clear hVF
              rcases hbad with rfl | ⟨rfl, rfl⟩ | ⟨rfl, rfl, b1⟩ | ⟨rfl, rfl, b1, b2⟩ | ⟨rfl, rfl, b1, b2⟩
              · go_wp2_with fail
                go_ret2
                exact ⟨by rw [HVF.out]; rfl, H1.out⟩
              · go_wp2_with fail
                refine (HDP.out _).mono ?_; rintro e w2 ⟨rfl, rfl⟩
                go_wp2_with fail
                go_ret2
                exact ⟨by rw [HVF.out]; rfl, H1.out⟩
              · have b1' : (9 : Int) < W.size := by omega
                go_wp2_with fail
                refine (HDP.out _).mono ?_; rintro e w2 ⟨rfl, rfl⟩
                go_wp2_with fail
                go_ret2
                exact ⟨by rw [HVF.out]; rfl, H1.out⟩
              · have b1' : (W.size : Int) ≤ 9 := by omega
                have b2' : (6 : Int) < P.size := by omega
                go_wp2_with fail
                refine (HDP.out _).mono ?_; rintro e w2 ⟨rfl, rfl⟩
                go_wp2_with fail
                go_ret2
                exact ⟨by rw [HVF.out]; rfl, H1.out⟩
              · have b1' : (W.size : Int) ≤ 9 := by omega
                have b2' : (P.size : Int) ≤ 6 := by omega
                have b3' : ((W.size : Int) + P.size == 0) = true := by rw [beq_iff_eq]; omega
                go_wp2_with fail
                refine (HDP.out _).mono ?_; rintro e w2 ⟨rfl, rfl⟩
                go_wp2_with fail
                go_ret2
                exact ⟨by rw [HVF.out]; rfl, H1.out⟩
end Go.Proofs.YtdlhmcogpmdonaaGreatDoor
