/- Behind an end, or something wrong, nothing is asked for any more: FrontEnds answers true, whatever it is called with, and leaves what was there as it was. (Over the listed variables, tied to the program's text.) -/
import Derived.Test.YtmofnkinclckoaaDoorZ12
import Derived.BigQuiet
import Derived.Deep.QuietTactic
namespace Go.Proofs.YtmofnkinclckoaaDoor
open Go.RowKit Go.Lib Go.WideShapes Go.ChangeShapes Go.ChangeAt Go.Joins

theorem room_ten {T : List Bs} {N : List Int} (h : ∀ t ∈ T, t.length ≤ 100) (hl : T.length ≤ 10) (hn : N.length ≤ 3) : room ⟨T, N, []⟩ ≤ 800000 := by
  have hs : ∀ T : List Bs, (∀ t ∈ T, t.length ≤ 100) → (T.map fun t => t.length + 19).sum ≤ T.length * 119 := by
    intro T
    induction T with
    | nil => simp
    | cons a r ih =>
      intro h
      have h1 := h a List.mem_cons_self
      have h2 := ih (fun t ht => h t (List.mem_cons_of_mem _ ht))
      simp only [List.map_cons, List.sum_cons, List.length_cons]
      omega
  have := hs T h
  unfold room
  simp
  omega
set_option maxRecDepth 100000 in
set_option maxHeartbeats 16000000 in
theorem ends_walk (tv : Value) (T : List Bs) (sb tb : ByteArray) (w : World) (hT : TextsIn w tv T) (hTz : ∀ t ∈ T, t.length ≤ 140737488351232) (hs : sb.size ≤ 140737488351232) (ht : tb.size ≤ 140737488351232) :
    Calls Tryd.prog 4 #[tv, .string sb, .string tb] w fun e w' => e = .returned (.bool true) ∧ Below w.heap.size w w' := by
  have HT := Lib.hid hT; have HTZ := Lib.hid hTz
  obtain ⟨ta, n, tc, rfl, hTl, hnc, htc9, hTc⟩ := hT
  have HTL := Lib.hid hTl; have HTC := Lib.hid hTc
  clear hTl hTc hTz
  go_enter Tryd.func4, Tryd.ntmps4
  go_wp2_with fail
  refine (shown18 w).mono ?_; rintro e w1 ⟨rfl, hb⟩
  have B1 := Lib.hid hb
  clear hb
  go_wp2_with fail
  refine (newF_any w1).mono ?_; rintro e w2 ⟨p, q, rfl, hF, hb, hp, hq⟩
  have B2 := Lib.hid (B1.out.step hb B1.out.size)
  have HF2 := Lib.hid hF
  have HP := Lib.hid (show w.heap.size ≤ p ∧ w.heap.size ≤ q from by have := B1.out.size; omega)
  have HPL := Lib.hid (show p < w2.heap.size ∧ q < w2.heap.size from ⟨hF.cell.lt, hF.rd.lt⟩)
  clear hF hb hp hq
  by_cases h30 : 3000 < sb.size + tb.size
  · have h31 : decide ((3000 : Int) < (sb.size : Int) + tb.size) = true := decide_eq_true (by omega)
    go_wp2_with fail
    go_ret
    exact ⟨rfl, B2.out⟩
  have h31 : decide ((3000 : Int) < (sb.size : Int) + tb.size) = false := decide_eq_false (by omega)
  by_cases h10 : 10 < n
  · have h11 : decide ((10 : Int) < n) = true := decide_eq_true (by omega)
    go_wp2_with fail
    go_ret
    exact ⟨rfl, B2.out⟩
  have h11 : decide ((10 : Int) < n) = false := decide_eq_false (by omega)
  go_wp2_with fail
  go_loopg [9] n (fun m i wr => ∃ k : Nat, i = .int .i64 k ∧ k ≤ n ∧ m = n - k ∧ wr = w2 ∧ ∀ (i : Nat) (t : Bs), i < k → T[i]? = some t → t.length ≤ 100)
  case atStart => exact ⟨0, rfl, Nat.zero_le _, rfl, rfl, fun i t h => absurd h (Nat.not_lt_zero _)⟩
  case round =>
    obtain ⟨k, rfl, hk, hm, rfl, ho⟩ := hrel
    have HO := Lib.hid ho; have HGK := Lib.hid hm
    clear ho hm
    by_cases hlt : k < n
    · have hlt' : (k : Int) < n := by omega
      rcases HTC.out with h0 | ⟨g, off, rfl, hg, hc⟩
      · have := HTL.out; rw [h0] at this; simp at this; omega
      obtain ⟨t0, ht0⟩ : ∃ t0, T[k]? = some t0 := ⟨_, List.getElem?_eq_getElem (by rw [HTL.out]; exact hlt)⟩
      have c0 := (B2.out.cell (p := ⟨g, off + k, none⟩) hg).trans (hc k t0 ht0)
      obtain ⟨b0, hb0⟩ : ∃ z : ByteArray, z = ⟨t0.toArray⟩ := ⟨_, rfl⟩
      rw [← hb0] at c0
      have hbz : b0.size = t0.length := by rw [hb0]; simp [ByteArray.size]
      have hz0 := HTZ.out t0 (List.mem_of_getElem? ht0)
      have hgr : g < wr.heap.size := by have := B2.out.size; omega
      have HT0 := Lib.hid ht0
      clear hb0 ht0 hc
      by_cases hl : 100 < b0.size
      · have hl' : (100 : Int) < b0.size := by omega
        go_wp2_with fail
        go_ret
        exact ⟨rfl, B2.out⟩
      · have hl' : ¬ (100 : Int) < b0.size := by omega
        have HN := Lib.hid (show ∀ (i : Nat) (t : Bs), i < k + 1 → T[i]? = some t → t.length ≤ 100 from fun i t hi h => by
          by_cases hik : i = k
          · subst hik
            rw [HT0.out] at h
            obtain rfl := Option.some.inj h
            omega
          · exact HO.out i t (by omega) h)
        go_wp2_with fail
        go_roundg (n - (k + 1))
        case measure => have := HGK.out; omega
        case rel => exact ⟨k + 1, by go_num, by omega, rfl, rfl, HN.out⟩
    · obtain rfl : k = n := by omega
      have hge : ¬ (k : Int) < k := by omega
      have hall : ∀ t ∈ T, t.length ≤ 100 := fun t ht9 => by
        obtain ⟨i, hi, rfl⟩ := List.mem_iff_getElem.1 ht9
        exact HO.out i _ (by have := HTL.out; omega) (List.getElem?_eq_getElem hi)
      have HSA := Lib.hid (startK_any ta k tc T wr (HT.out.mono B2.out) (room_ten hall (by rw [HTL.out]; omega) (by simp)))
      have hz := startK_size T
      obtain ⟨su, hsu⟩ : ∃ z, z = startK T := ⟨_, rfl⟩
      rw [← hsu] at HSA hz
      clear hsu hall
      go_wp2_with fail
      refine HSA.out.mono ?_; rintro e w3 ⟨rfl, hb⟩
      have HF3 := Lib.hid (HF2.out.grown hb)
      have B3 := Lib.hid (B2.out.step hb B2.out.size)
      have HPL3 := Lib.hid (show p < w3.heap.size ∧ q < w3.heap.size from by have := HPL.out; have := hb.size; omega)
      clear hb HSA
      go_wp2_with fail
      refine (feed_st p q (.slice none 0 0) su { data := #[] } false [] (some ({ data := #[] }, false)) w3 HF3.out ktold_nil0 (by show 0 + _ ≤ _; omega)).mono ?_; rintro e w4 ⟨v1, L1, st1, q1, rfl, hR1, hS1, hT1, hv1, hK1⟩
      have B4 := Lib.hid (show Below w.heap.size w w4 from B3.out.trans (hT1.below (B := w.heap.size) B3.out.size HP.out.1 HP.out.2 (by simp [Value.ownBlock])))
      have HV1 := Lib.hid (show ∀ k, q1.ownBlock = some k → w.heap.size ≤ k from fun k hk => by
        rcases hv1 k hk with hh | hh
        · simp [Value.ownBlock] at hh
        · have := B3.out.size; omega)
      have HR1 := Lib.hid hR1; have HS1 := Lib.hid hS1; have HK1 := Lib.hid hK1
      have hl1 := hK1.size.1
      rw [List.nil_append] at hl1
      obtain ⟨va, vc, rfl⟩ := hR1.form
      have HZ34 := Lib.hid hT1.size
      clear hR1 hS1 hT1 hv1 hK1
      go_wp2_with fail
      refine (feed_st p q q1 sb _ false _ st1 w4 HS1.out HK1.out (by rw [ByteArray.size_append]; show 0 + su.size + sb.size ≤ _; omega)).mono ?_; rintro e w5 ⟨v2, L2, st2, q2, rfl, hR2, hS2, hT2, hv2, hK2⟩
      have B5 := Lib.hid (show Below w.heap.size w w5 from B4.out.trans (hT2.below (B := w.heap.size) B4.out.size HP.out.1 HP.out.2 HV1.out))
      have HV2 := Lib.hid (show ∀ k, q2.ownBlock = some k → w.heap.size ≤ k from fun k hk => by
        rcases hv2 k hk with hh | hh
        · exact HV1.out k hh
        · have := B4.out.size; omega)
      have HR15 := Lib.hid (HR1.out.turned HS1.out hT2 HPL3.out.1 HPL3.out.2)
      have HS2 := Lib.hid hS2; have HK2 := Lib.hid hK2
      have hl2 := hK2.size.1
      rw [List.nil_append, List.length_append] at hl2
      have hsz : (({ data := #[] } : ByteArray) ++ su ++ sb).size ≤ 14000 := by rw [ByteArray.size_append, ByteArray.size_append]; show 0 + su.size + sb.size ≤ _; omega
      have hrow : ∀ k', (Value.slice va L1.length vc).ownBlock = some k' → w3.heap.size ≤ k' := fun k' hk' => (HR15.out.lt k' hk').1
      obtain ⟨L, hL⟩ : ∃ L, L = L1 ++ L2 := ⟨_, rfl⟩
      have HK := Lib.hid (show KTold (({ data := #[] } : ByteArray) ++ su ++ sb) false L st2 from by rw [hL]; exact HK2.out)
      have hll : L.length ≤ 14001 := by rw [hL, List.length_append]; omega
      obtain ⟨v3, w6, hrun, hR3, hg3, hf3⟩ := krow_append HR15.out hR2 (by omega) (by have := HZ34.out; have := hT2.size; omega)
      rw [← hL] at hR3
      have HS6 := Lib.hid (hS2.grownBy HR15.out hg3 HPL3.out.1 HPL3.out.2)
      have B6 := Lib.hid (show Below w.heap.size w w6 from B5.out.grown hg3 B5.out.size (fun k' hk' => Nat.le_trans B3.out.size (hrow k' hk')))
      have HR3 := Lib.hid hR3
      obtain ⟨v3a, v3c, rfl⟩ := hR3.form
      have HRUN := Lib.hid hrun
      clear hrun hR2 hS2 hT2 hv2 hK2 HK2 hR3 hg3 hf3 hrow hl1 hl2 hsz
      have hov := HK.out.over
      clear hL
      by_cases hnil : L = []
      · obtain ⟨r9, hr9⟩ : ∃ r9, st2 = some r9 := by
          cases st2 with
          | some r9 => exact ⟨r9, rfl⟩
          | none =>
            obtain ⟨A, E, h1, _⟩ := hov.1.1 rfl
            rw [hnil] at h1
            cases A <;> cases h1
        have HOS := Lib.hid (over_st p q q2 st2 w6 HS6.out)
        rw [hr9] at HOS
        have hl0 : L.length = 0 := by rw [hnil]; rfl
        rw [hl0] at HRUN
        clear hov hnil hl0 hll
        go_wp2_with (at_builtin; refine run_eq_walk rfl (.tmp 56) (.tmp 59) 32 rfl _ _ rfl rfl _ _ HRUN.out ?_)
        refine HOS.out.mono ?_; rintro e w7 ⟨rfl, rfl⟩
        rw [show overS (some r9) = false from rfl]
        go_wp2_with fail
        go_ret
        exact ⟨rfl, B6.out⟩
      · obtain ⟨g, gc, hv9, hgc, hgb, hgl, hcell⟩ := HR3.out.read hnil
        injection hv9 with e1 e2 e3
        subst e1 e3
        have hpos : 0 < L.length := by cases L with | nil => exact absurd rfl hnil | cons _ _ => simp
        obtain ⟨E, hE⟩ : ∃ E, L[L.length - 1]? = some E := ⟨_, List.getElem?_eq_getElem (by omega)⟩
        have hLE : L = L.take (L.length - 1) ++ [E] := by
          have h1 := List.take_append_drop (L.length - 1) L
          have h2 : L.drop (L.length - 1) = [E] := by
            rw [List.drop_eq_getElem_cons (by omega)]
            have h3 := List.getElem?_eq_getElem (show L.length - 1 < L.length by omega)
            rw [hE] at h3
            rw [← Option.some.inj h3, show L.length - 1 + 1 = L.length by omega, List.drop_length]
          rw [h2] at h1
          exact h1.symm
        have HOE := Lib.hid (show overS st2 = fin E from by
          cases hst : st2 with
          | none =>
            rw [hst] at hov
            obtain ⟨A, E', h1, h2⟩ := hov.1.1 rfl
            have : E' = E := by
              have h3 := hE
              rw [h1, List.length_append, List.length_singleton, Nat.add_sub_cancel, List.getElem?_append_right (Nat.le_refl _), Nat.sub_self] at h3
              exact Option.some.inj h3
            rw [← this, h2]; rfl
          | some r9 =>
            cases hf : fin E with
            | false => rfl
            | true =>
              have := hov.1.2 ⟨_, E, hLE, hf⟩
              rw [hst] at this
              cases this)
        have HNF := Lib.hid (show ∀ (i : Nat) (E' : Ev), i + 1 < L.length → L[i]? = some E' → fin E' = false from fun i E' hi he => by
          have h1 : L = L.take i ++ E' :: L.drop (i + 1) := by
            have h1 := List.take_append_drop i L
            rw [List.drop_eq_getElem_cons (by omega)] at h1
            have h3 := List.getElem?_eq_getElem (show i < L.length by omega)
            rw [he] at h3
            rw [← Option.some.inj h3] at h1
            exact h1.symm
          exact hov.2 _ E' _ h1 (fun h => by have := congrArg List.length h; rw [List.length_drop] at this; simp at this; omega))
        have hce := (hcell _ _ hE).1
        have HCE := Lib.hid hcell
        obtain ⟨ke, hke⟩ : ∃ z : Int, z = (E.k.toNat : Nat) := ⟨_, rfl⟩
        have hkr : 0 ≤ ke ∧ ke < 256 := by have := UInt8.toNat_lt E.k; omega
        have HFP := Lib.hid (fin_parts hke)
        have HOS := Lib.hid (over_st p q q2 st2 w6 HS6.out)
        rw [HOE.out] at HOS
        rw [← hke] at hce
        have hpos1 : (1 : Int) ≤ L.length := by omega
        have hne0 : (L.length == 0) = false := by simpa using hnil
        clear hov hLE hE hcell hke hnil e2
        go_upto_region 15 with (at_builtin; refine run_eq_walk rfl (.tmp 56) (.tmp 59) 32 rfl _ _ rfl rfl _ _ HRUN.out ?_)
        clear HRUN
        go_cut [12] (fun r wx => r = .bool (fin E) ∧ wx = w6)
        case first =>
          by_cases e1 : ke = 120
          · have d1 : (ke == 120) = true := by simpa using e1
            have hf1 : fin E = true := by rw [HFP.out, d1]; rfl
            clear e1
            go_wp2_with fail
            go_meet
            exact ⟨by rw [hf1], rfl⟩
          · have d1 : (ke == 120) = false := by simpa using e1
            by_cases e2 : ke = 101
            · have d2 : (ke == 101) = true := by simpa using e2
              have hf1 : fin E = true := by rw [HFP.out, d2]; simp
              clear e1 e2
              go_wp2_with fail
              go_meet
              exact ⟨by rw [hf1], rfl⟩
            · have d2 : (ke == 101) = false := by simpa using e2
              by_cases e3 : ke = 99
              · have d3 : (ke == 99) = true := by simpa using e3
                have hf1 : fin E = true := by rw [HFP.out, d3]; simp
                clear e1 e2 e3
                go_wp2_with fail
                go_meet
                exact ⟨by rw [hf1], rfl⟩
              · have d3 : (ke == 99) = false := by simpa using e3
                have hf1 : fin E = false := by rw [HFP.out, d1, d2, d3]; rfl
                clear e1 e2 e3
                go_wp2_with fail
                go_meet
                exact ⟨by rw [hf1], rfl⟩
        case rest =>
          obtain ⟨rfl, hwc⟩ := hcut
          subst hwc
          have hst9 : (st2 = none) = (fin E = true) := by rw [← HOE.out]; cases st2 <;> simp [overS]
          have HST := Lib.hid hst9
          clear hst9 hce hne0
          obtain ⟨fe, hfe⟩ : ∃ z : Bool, z = fin E := ⟨_, rfl⟩
          rw [← hfe] at HOS HST ⊢
          clear hfe
          cases fe
          · go_wp2_with fail
            refine HOS.out.mono ?_; rintro e w7 ⟨rfl, rfl⟩
            go_wp2_with fail
            go_loopg [13] L.length (fun m i wr => ∃ j : Nat, i = .int .i64 j ∧ j + 1 ≤ L.length ∧ m = L.length - j ∧ wr = wc)
            case atStart => exact ⟨0, rfl, by omega, rfl, rfl⟩
            case round =>
              obtain ⟨j, rfl, hj, hm, rfl⟩ := hrel
              have HGK := Lib.hid hm
              clear hm
              by_cases hlt : j + 1 < L.length
              · have hlt' : (j : Int) + 1 < L.length := by omega
                obtain ⟨G, hG⟩ : ∃ G, L[j]? = some G := ⟨_, List.getElem?_eq_getElem (by omega)⟩
                have hcg := (HCE.out j G hG).1
                have hnf := HNF.out j G hlt hG
                obtain ⟨kg, hkg⟩ : ∃ z : Int, z = (G.k.toNat : Nat) := ⟨_, rfl⟩
                have hfp := fin_parts hkg
                rw [← hkg] at hcg
                rw [hnf] at hfp
                have d1 : (kg == 120) = false := by cases h : (kg == 120) with | false => rfl | true => rw [h] at hfp; simp at hfp
                have d2 : (kg == 101) = false := by cases h : (kg == 101) with | false => rfl | true => rw [h] at hfp; simp at hfp
                have d3 : (kg == 99) = false := by cases h : (kg == 99) with | false => rfl | true => rw [h] at hfp; simp at hfp
                clear hfp hkg hnf hG
                go_wp2_with fail
                go_roundg (L.length - (j + 1))
                case measure => have := HGK.out; omega
                case rel => exact ⟨j + 1, by go_num, by omega, rfl, rfl⟩
              · have hge : ¬ (j : Int) + 1 < L.length := by omega
                go_wp2_with fail
                go_ret
                exact ⟨rfl, B6.out⟩
          · go_wp2_with fail
            refine HOS.out.mono ?_; rintro e w7 ⟨rfl, rfl⟩
            go_wp2_with fail
            go_loopg [13] L.length (fun m i wr => ∃ j : Nat, i = .int .i64 j ∧ j + 1 ≤ L.length ∧ m = L.length - j ∧ wr = wc)
            case atStart => exact ⟨0, rfl, by omega, rfl, rfl⟩
            case round =>
              obtain ⟨j, rfl, hj, hm, rfl⟩ := hrel
              have HGK := Lib.hid hm
              clear hm
              by_cases hlt : j + 1 < L.length
              · have hlt' : (j : Int) + 1 < L.length := by omega
                obtain ⟨G, hG⟩ : ∃ G, L[j]? = some G := ⟨_, List.getElem?_eq_getElem (by omega)⟩
                have hcg := (HCE.out j G hG).1
                have hnf := HNF.out j G hlt hG
                obtain ⟨kg, hkg⟩ : ∃ z : Int, z = (G.k.toNat : Nat) := ⟨_, rfl⟩
                have hfp := fin_parts hkg
                rw [← hkg] at hcg
                rw [hnf] at hfp
                have d1 : (kg == 120) = false := by cases h : (kg == 120) with | false => rfl | true => rw [h] at hfp; simp at hfp
                have d2 : (kg == 101) = false := by cases h : (kg == 101) with | false => rfl | true => rw [h] at hfp; simp at hfp
                have d3 : (kg == 99) = false := by cases h : (kg == 99) with | false => rfl | true => rw [h] at hfp; simp at hfp
                clear hfp hkg hnf hG
                go_wp2_with fail
                go_roundg (L.length - (j + 1))
                case measure => have := HGK.out; omega
                case rel => exact ⟨j + 1, by go_num, by omega, rfl, rfl⟩
              · have hge : ¬ (j : Int) + 1 < L.length := by omega
                have hn9 : st2 = none := by rw [HST.out]; trivial
                have hs9 := HS6.out
                rw [hn9] at hs9
                obtain ⟨b9, hc9⟩ := hs9
                have HC9 := Lib.hid hc9
                clear hc9 hn9
                go_wp2_with fail
                refine (feed_over p b9 _ _ HC9.out).mono ?_; rintro e w8 ⟨rfl, rfl⟩
                go_wp2_with fail
                refine HOS.out.mono ?_; rintro e w8 ⟨rfl, rfl⟩
                go_wp2_with fail
                go_ret
                exact ⟨rfl, B6.out⟩
set_option maxRecDepth 100000 in
theorem ends_lifted (os : Os) (started : os.Started) (H : Type) (enc : TypeId × Value → H) :
    ReturnsInHanded {} Tryd.checked os 4 .any (fun w args => (Rows.frontEndsSpec.pre enc Tryd.prog Tryd.f4 Rows.frontEndsRow.domain false w args ∧ laidMetH Tryd.prog [("unicode/utf8.acceptRanges", Rows.laid_unicode_utf8_acceptRanges), ("unicode/utf8.first", Rows.laid_unicode_utf8_first)] w) ∧ sizedMet enc Tryd.prog Tryd.f4 (OpenSpec.ofChange Rows.frontEndsSpec) false w args) (Rows.frontEndsSpec.post enc Tryd.prog Tryd.f4 false true false false) := by
  refine handed_laid (C := Tryd.checked) (X := fun w _ => laidMetH Tryd.prog [("unicode/utf8.acceptRanges", Rows.laid_unicode_utf8_acceptRanges), ("unicode/utf8.first", Rows.laid_unicode_utf8_first)] w) (fun _ _ _ hh h => h.of_heap hh) own started (by kernel_rfl) Tryd.func4
    (ChangeSpec.witness_shaped (enc := enc) (C := Tryd.checked) (os := os) (X := fun w _ => laidMetH Tryd.prog [("unicode/utf8.acceptRanges", Rows.laid_unicode_utf8_acceptRanges), ("unicode/utf8.first", Rows.laid_unicode_utf8_first)] w) false (World.laidAll Tryd.prog os [("unicode/utf8.acceptRanges", Rows.laid_unicode_utf8_acceptRanges), ("unicode/utf8.first", Rows.laid_unicode_utf8_first)]) #[.slice none 0 0, .string { data := #[] }, .string { data := #[] }] 8 (World.laidAll_os _ _ _) (World.shaped_of_ZipB (by kernel_rfl) (by kernel_rfl)) (by kernel_rfl) (by kernel_rfl) (by kernel_rfl)
      (by rw [MakeChecks.laidMetH_plain _ _ _ (by kernel_rfl)]; exact laidMet_laidAll _ (by kernel_rfl) (by kernel_rfl))) ?_
  intro W base args ds gs before hval0 hW hsz0 _ _
  have hsz : (DataW.weightsEach Tryd.prog (Tryd.f4.params.toList ++ Rows.frontEndsSpec.plain.varTypes Tryd.prog) (ds ++ gs)).all (· ≤ reachBytes) = true := hsz0
  clear hsz0
  have hval : ∀ (j : Nat) t v, Tryd.f4.params[j]? = some t → args[j]? = some v → Value.okWide Tryd.prog W .any base t v := hval0
  have hW' := hW
  obtain ⟨p, q, hA0, hV, rfl, _, _⟩ := hW
  have hA : DataW.TrodAll enc Tryd.prog W 0 (fun _ => true) true Tryd.f4.params.toList args.toList ds p := hA0
  rw [Tryd.params4] at hA hval hsz
  obtain ⟨v0, v1, v2, d0, d1, d2, p0, p1, p2, rfl, rfl, rfl, h0, h1, h2⟩ := trodAll_three hA
  obtain ⟨rfl, rfl⟩ := trodVars_none hV
  obtain ⟨a0, len0, cap0, rfl⟩ := okWide_slice Tryd.underlying27 (hval 0 27 v0 rfl rfl)
  obtain ⟨fuel0, hf0⟩ := h0
  obtain ⟨T, hT0, hw1⟩ := open_textsIn (by simpa [Value.cells] using hf0)
  have hTz : ∀ t ∈ T, t.length ≤ 140737488351232 := fun t ht => of_decide_eq_true (List.all_eq_true.1 hsz _ (DataW.weights_mem_each (j := 0) (t := 27) rfl rfl _ (hw1 t ht)))
  obtain ⟨s, rfl, rfl, rfl, hl_s⟩ := Go.ChangeMaps.open_string Tryd.underlying9 (hval 1 9 v1 rfl rfl) h1
  have hz_s : s.size ≤ 140737488351232 := by have := sized_string hsz (j := 1) (t := 9) rfl rfl; rw [size_list] at this; exact this
  obtain ⟨t, rfl, rfl, rfl, hl_t⟩ := Go.ChangeMaps.open_string Tryd.underlying9 (hval 2 9 v2 rfl rfl) h2
  have hz_t : t.size ≤ 140737488351232 := by have := sized_string hsz (j := 2) (t := 9) rfl rfl; rw [size_list] at this; exact this
  refine (ends_walk _ T s t W hT0 hTz hz_s hz_t).mono fun e W' ⟨he, hb⟩ => ?_
  subst he
  exact ⟨_, rfl, law_shut laidOut (by kernel_rfl) (by kernel_rfl) Tryd.underlying4 rfl hW' rfl hb⟩

theorem ends_holds : Rows.FrontEndsSaid :=
  OpenClaim.holds_of_wide 4 Tryd.f4 rfl rfl rfl rfl rfl rfl rfl ⟨rfl, rfl, rfl, rfl, rfl⟩ rfl rfl rfl rfl rfl (by kernel_rfl) Tryd.func4 (by kernel_rfl)
    (of_decide_eq_true (by kernel_rfl)) (by unfold Func.isWrapper; rw [if_neg (of_decide_eq_false (by kernel_rfl))]; exact ⟨rfl, rfl⟩)
    (fun os started H enc _ => ends_lifted os started H enc)

theorem ends_card : Rows.FrontEndsCardSaid :=
  Claim7.holds_tied_plain_at .later [] [.data, .pinned] true _ false ends_holds (fun _ h => by cases h) (by kernel_rfl) (fun _ h => by cases h) frontEnds_row_tie rfl ⟨rfl, rfl⟩ (by kernel_rfl) rfl
    (fun f fn hf hfn => by
      obtain rfl : f = 4 := Option.some.inj ((show Tryd.prog.funcNamed "taxirank/taxiranklaw18.FrontEnds" = some 4 by kernel_rfl).symm.trans hf) |>.symm
      obtain rfl : fn = Tryd.f4 := (Option.some.inj (Tryd.func4.symm.trans hfn)).symm
      exact ⟨by kernel_rfl, fun j t ht => by
        rw [Tryd.params4] at ht
        have hm : t ∈ [27, 9, 9] := by simpa using Array.mem_of_getElem? ht
        have hall : ([27, 9, 9].all fun u => !Tryd.prog.wantsStandIn u) = true := by kernel_rfl
        exact (show Tryd.prog.wantsStandIn t = false by simpa using List.all_eq_true.1 hall t hm)⟩)
    (by kernel_rfl)
end Go.Proofs.YtmofnkinclckoaaDoor
