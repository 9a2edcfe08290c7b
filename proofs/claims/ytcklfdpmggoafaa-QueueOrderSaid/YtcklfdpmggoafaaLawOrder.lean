/- Any ids that join and leave: QueueOrder answers true, and leaves what was there as it was. -/
import Derived.Test.YtcklfdpmggoafaaOrderM
import Derived.Test.YtcklfdpmggoafaaLawServes
import Derived.Deep.OwnRows
import Derived.Deep.RegionHeld3
import Derived.Deep.QuietTactic
import Derived.BigQuiet
namespace Go.Proofs.Ytcklfdpmggoafaa
open Go.RowKit Go.Lib Go.WideShapes Go.ChangeShapes Go.ChangeAt Go.Joins

theorem half_range {z : Int} (h : -9223372036854775808 ≤ z ∧ z ≤ 9223372036854775807) : -9223372036854775808 ≤ z.tdiv 2 ∧ z.tdiv 2 ≤ 9223372036854775807 := by
  by_cases h0 : 0 ≤ z
  · rw [Int.tdiv_eq_ediv_of_nonneg h0]; omega
  · have e : z = -(-z) := by omega
    rw [e, Int.neg_tdiv, Int.tdiv_eq_ediv_of_nonneg (by omega)]; omega

theorem order_early (l0 : Option Addr) (len cap : Nat) (w : World) (h : (300 : Int) < len) :
    Calls Try.prog 4 #[.slice l0 len cap] w fun e w' => e = .returned (.bool true) ∧ Below w.heap.size w w' := by
  go_enter Try.func4, Try.ntmps4
  go_wp2_with fail
  refine (shown_true _).mono ?_; rintro e w1 ⟨rfl, hb1⟩
  have hz1 := hb1.size
  have HB1 := Lib.hid hb1
  clear hb1
  go_wp2_with fail
  refine (qe_new 1000 w1 (by omega)).mono ?_; rintro e w2 ⟨rfl, hq2⟩
  have HB2 := Lib.hid (HB1.out.step hq2.below hz1)
  clear hq2
  go_wp2_with fail
  go_ret
  exact ⟨rfl, HB2.out⟩

set_option maxRecDepth 100000 in
set_option maxHeartbeats 8000000 in
theorem order_walk (l0 : Option Addr) (len cap : Nat) (c : Nat → Int) (w : World) (hlen : len ≤ 300) (hC : len = 0 ∨ ∃ b off, l0 = some ⟨b, off, none⟩ ∧ b < w.heap.size ∧ IntsAt w b off len c) (hcr : ∀ i, i < len → -9223372036854775808 ≤ c i ∧ c i ≤ 9223372036854775807) :
    Calls Try.prog 4 #[.slice l0 len cap] w fun e w' => e = .returned (.bool true) ∧ Below w.heap.size w w' := by
  obtain ⟨i0, hi, y0, y1, y2⟩ := info_parts Try.info3
  have HC := Lib.hid hC; have HCR := Lib.hid hcr
  clear hC hcr
  go_enter Try.func4, Try.ntmps4
  go_wp2_with fail
  refine (shown_true _).mono ?_; rintro e w1 ⟨rfl, hb1⟩
  have hz1 := hb1.size
  have HB1 := Lib.hid hb1
  clear hb1
  go_wp2_with fail
  refine (qe_new 1000 w1 (by omega)).mono ?_; rintro e w2 ⟨rfl, hq2⟩
  have HQ3 := Lib.hid hq2.made
  have hmk : (Instr.makeSlice 37 (.int .i64 20) (.int .i64 20)).run Try.prog w2 = .ok (.slice (some ⟨w2.heap.size, 0, none⟩) 20 20) (w2.alloc (.cells (madeCells #[.int .i64 0] 20) 3)) :=
    run_make_row (P := Try.prog) 37 3 i0 (.int .i64 0) Try.underlying37 hi y0 y1 rfl .i64 .i64 20 (by rw [y2]; omega) (by omega) w2
  obtain ⟨g, hg⟩ : ∃ g, g = w2.heap.size := ⟨_, rfl⟩
  obtain ⟨w3, hw3⟩ : ∃ w3, w3 = w2.alloc (.cells (madeCells #[.int .i64 0] 20) 3) := ⟨_, rfl⟩
  rw [← hw3, ← hg] at HQ3 hmk
  clear hq2 hg hw3
  go_wp2_with fail
  clear hmk
  go_loopw [7, 7] (fun i _ wr => ∃ (k : Nat) (xs : List Int) (L : Waits), k ≤ len ∧ i = .int .i64 k ∧ Told k xs L ∧ QW w1 wr (w1.heap.size + 1) w1.heap.size 1000 L k (.slice (some ⟨g, 0, none⟩) 20 20) xs) (fun i _ _ => len - (intOf i).toNat)
  case atStart => exact ⟨0, _, [], Nat.zero_le _, rfl, Told.start, HQ3.out⟩
  case round =>
    obtain ⟨k, xs, L, hk, rfl, hT, hQ⟩ := hrel
    have HQ := Lib.hid hQ; have HT := Lib.hid hT
    clear hQ HQ3 hT
    by_cases hlt : k < len
    · obtain ⟨b, off, hl0, hb, hCC⟩ : ∃ b off, l0 = some ⟨b, off, none⟩ ∧ b < w.heap.size ∧ IntsAt w b off len c := HC.out.elim (fun h => by omega) id
      subst hl0
      have hck := hCC k hlt
      have hcr := HCR.out k hlt
      obtain ⟨z, hz⟩ : ∃ z, z = c k := ⟨_, rfl⟩
      rw [← hz] at hck hcr
      have d0 : wr.cell? ⟨b, off + k, none⟩ = some (.int .i64 z) := ((HB1.out.step HQ.out.qe.below hz1).cell (p := ⟨b, off + k, none⟩) hb).trans hck
      clear hCC hz hck
      have hlt' : (k : Int) < len := by omega
      have hs1 := pk_lt (z.tdiv 2) 20 (by omega)
      have HPS := Lib.hid (fun W => pick_any (z.tdiv 2) 20 W (by omega) (by omega) (half_range hcr))
      obtain ⟨s, hs⟩ : ∃ s, s = pk (z.tdiv 2) 20 := ⟨_, rfl⟩
      rw [← hs] at hs1 HPS
      have hr1 := pk_lt z 2 (by omega)
      have HPR := Lib.hid (fun W => pick_any z 2 W (by omega) (by omega) hcr)
      obtain ⟨r, hr⟩ : ∃ r, r = pk z 2 := ⟨_, rfl⟩
      rw [← hr] at hr1 HPR
      clear hs hr
      have hs1' : (s : Int) < 20 := by omega
      obtain ⟨x, hx⟩ : ∃ x, xs[s]? = some x := ⟨_, List.getElem?_eq_getElem (by have := HT.out.len; omega)⟩
      have hxr := HT.out.range hx
      have d1 := HQ.out.cellAt (i := s) HT.out.len.symm hx
      have HX := Lib.hid hx
      clear hx
      go_wp2_with fail
      refine (HPS.out _).mono ?_; rintro e w' ⟨rfl, rfl⟩
      go_wp2_with fail
      refine (HPR.out _).mono ?_; rintro e w' ⟨rfl, rfl⟩
      clear HPS HPR d0
      by_cases hr0 : r = 0
      · subst hr0
        by_cases hx0 : x = 0
        · subst hx0
          have HW := Lib.hid (HQ.out.grown ((Below.refl wr.heap.size wr).drew))
          have d2 := HW.out.cellAt (i := s) HT.out.len.symm HX.out
          have HLK := Lib.hid ((HT.out.look HX.out).trans (if_pos rfl))
          go_wp2_with fail
          go_region_held3 (fun w' => w'.cell? ⟨g, s, none⟩ = some (.int .i64 0)) (first | exact d1 | exact d2 | exact S1) (first | (go_at_call 13; refine (qw_of HW.out fun o ho => join_ok _ _ o _ _ _ (s : Int) (k : Int) _ ho (by omega) (by omega) HLK.out (by have := HT.out.small; omega) (by omega)).mono ?_; rintro e w4 ⟨rfl, hQ4⟩; have S1 := hQ4.cellAt (i := s) HT.out.len.symm HX.out))
          have d3 := hQ4.frozenAt HT.out.len.symm s
          have HQ4 := Lib.hid hQ4
          clear hQ4 d1 d2 HQ HW
          go_wp2_with fail
          go_roundw
          case rel => exact ⟨k + 1, _, _, by omega, by go_num, HT.out.join HX.out, HQ4.out.set HT.out.len.symm s _⟩
          case measure => simp [intOf]; omega
        · have hxp : 0 < x := by omega
          have HW := Lib.hid (HQ.out.grown ((Below.refl wr.heap.size wr).drew))
          have d2 := HW.out.cellAt (i := s) HT.out.len.symm HX.out
          have HLK := Lib.hid (show (look L (s : Int)).isSome = true by rw [HT.out.look HX.out, if_neg hx0]; rfl)
          go_wp2_with fail
          go_region_held3 (fun w' => w'.cell? ⟨g, s, none⟩ = some (.int .i64 x)) (first | exact d1 | exact d2 | exact S1) (first | (go_at_call 13; refine (qw_of HW.out fun o ho => join_state _ _ o _ _ _ (s : Int) (k : Int) _ ho (by omega) HLK.out).mono ?_; rintro e w4 ⟨rfl, hQ4⟩; have S1 := hQ4.cellAt (i := s) HT.out.len.symm HX.out))
          have d3 := hQ4.frozenAt HT.out.len.symm s
          have HQ4 := Lib.hid hQ4
          clear hQ4 d1 d2 HQ HW
          go_wp2_with fail
          go_roundw
          case rel => exact ⟨k + 1, _, _, by omega, by go_num, HT.out.more, HQ4.out.later (by omega)⟩
          case measure => simp [intOf]; omega
      · obtain rfl : r = 1 := by omega
        by_cases hx0 : x = 0
        · subst hx0
          have HW := Lib.hid (HQ.out.grown ((Below.refl wr.heap.size wr).drew))
          have d2 := HW.out.cellAt (i := s) HT.out.len.symm HX.out
          have HLK := Lib.hid ((HT.out.look HX.out).trans (if_pos rfl))
          go_wp2_with fail
          go_region_held3 (fun w' => w'.cell? ⟨g, s, none⟩ = some (.int .i64 0)) (first | exact d1 | exact d2 | exact S1) (first | (go_at_call 15; refine (qw_of HW.out fun o ho => leave_no _ _ o _ _ _ (s : Int) _ ho HLK.out).mono ?_; rintro e w4 ⟨rfl, hQ4⟩; have S1 := hQ4.cellAt (i := s) HT.out.len.symm HX.out))
          have d3 := hQ4.frozenAt HT.out.len.symm s
          have HQ4 := Lib.hid hQ4
          clear hQ4 d1 d2 HQ HW
          go_wp2_with fail
          go_roundw
          case rel => exact ⟨k + 1, _, _, by omega, by go_num, HT.out.left HX.out, (HQ4.out.set HT.out.len.symm s 0).later (by omega)⟩
          case measure => simp [intOf]; omega
        · have hxp : 0 < x := by omega
          have HW := Lib.hid (HQ.out.grown ((Below.refl wr.heap.size wr).drew))
          have d2 := HW.out.cellAt (i := s) HT.out.len.symm HX.out
          have HLK := Lib.hid (show (look L (s : Int)).isSome = true by rw [HT.out.look HX.out, if_neg hx0]; rfl)
          go_wp2_with fail
          go_region_held3 (fun w' => w'.cell? ⟨g, s, none⟩ = some (.int .i64 x)) (first | exact d1 | exact d2 | exact S1) (first | (go_at_call 15; refine (qw_of HW.out fun o ho => leave_yes _ _ o _ _ _ (s : Int) _ ho (by omega) HLK.out).mono ?_; rintro e w4 ⟨rfl, hQ4⟩; have S1 := hQ4.cellAt (i := s) HT.out.len.symm HX.out))
          have d3 := hQ4.frozenAt HT.out.len.symm s
          have HQ4 := Lib.hid hQ4
          clear hQ4 d1 d2 HQ HW
          go_wp2_with fail
          go_roundw
          case rel => exact ⟨k + 1, _, _, by omega, by go_num, HT.out.leave hs1, (HQ4.out.set HT.out.len.symm s 0).later (by omega)⟩
          case measure => simp [intOf]; omega
    · obtain rfl : k = len := by omega
      clear HC HCR
      go_wp2_with fail
      refine (qe_list HQ.out.qe).mono ?_; rintro e w5 ⟨u, rfl, hU, _, hb5⟩
      have HQ5 := Lib.hid (HQ.out.grown hb5)
      obtain ⟨ua, uc, rfl⟩ := hU.form
      have HU := Lib.hid hU
      rw [List.length_map]
      clear hU hb5 HQ
      go_wp2_with fail
      go_loop [10, 11] (fun m i => ∃ j : Nat, j ≤ 20 ∧ i = .int .i64 j ∧ m = .int .i64 (many xs j)) (fun _ i => 20 - (intOf i).toNat)
      case atStart => exact ⟨0, Nat.zero_le _, rfl, rfl⟩
      case round =>
        obtain ⟨j, hj, rfl, rfl⟩ := hrel
        by_cases hjl : j < 20
        · obtain ⟨x, hx⟩ : ∃ x, xs[j]? = some x := ⟨_, List.getElem?_eq_getElem (by have := HT.out.len; omega)⟩
          have hxr := HT.out.range hx
          have d0 := HQ5.out.cellAt HT.out.len.symm hx
          have hml := many_le xs j
          have HMS := Lib.hid (show many xs (j + 1) = many xs j + if x = 0 then 0 else 1 by
            obtain ⟨hi, e⟩ := List.getElem?_eq_some_iff.1 hx
            rw [many_step xs j hi, e])
          clear hx
          have hjl' : (j : Int) < 20 := by omega
          by_cases hx0 : x = 0
          · subst hx0
            go_wp2_with fail
            go_round
            case rel => exact ⟨j + 1, by omega, by go_num, by rw [HMS.out]; go_num⟩
            case measure => simp [intOf]; omega
          · have hxp : 0 < x := by omega
            go_wp2_with fail
            go_round
            case rel => exact ⟨j + 1, by omega, by go_num, by rw [HMS.out, if_neg hx0]; go_num⟩
            case measure => simp [intOf]; omega
        · obtain rfl : j = 20 := by omega
          rw [HT.out.many]
          clear hjl hj
          go_wp2_with fail
          go_loopw [12, 12] (fun i _ W => ∃ j n : Nat, j ≤ L.length ∧ i = .int .i64 j ∧ W = w5.drewN n) (fun i _ _ => L.length - (intOf i).toNat)
          case atStart => exact ⟨0, 0, Nat.zero_le _, rfl, rfl⟩
          case round =>
            obtain ⟨j, n, hj, rfl, hW⟩ := hrel
            have HN := Lib.hid hW
            have hbW : Below w5.heap.size w5 wr := by rw [hW]; exact below_drewN (Below.refl _ _) _
            have hcW : ∀ (b o : Nat), wr.cell? ⟨b, o, none⟩ = w5.cell? ⟨b, o, none⟩ := fun b o => by rw [hW]; rfl
            clear hW
            by_cases hjl : j < L.length
            · obtain ⟨b, off, hua, hb, hc⟩ := HoldsI.open HU.out (by rw [List.length_map]; omega)
              subst hua
              obtain ⟨s, x, hs1, hs2, hs3, hs4, hs5⟩ := HT.out.entry hjl
              have d0 := (hcW _ _).trans (hc j (by rw [List.length_map]; exact hjl))
              rw [List.getElem_map, hs2] at d0
              have d1 := (hcW _ _).trans (HQ5.out.cellAt HT.out.len.symm hs3)
              have hxr := HT.out.range hs3
              have hsm := HT.out.small
              have e1 : decide ((s : Int) < 0) = false := decide_eq_false (by omega)
              have e2 : decide ((20 : Int) ≤ s) = false := decide_eq_false (by omega)
              have e3 : decide ((s : Int) ≥ 20) = false := e2
              have e4 : (x == 0) = false := by simp; omega
              have hjl' : (j : Int) < L.length := by omega
              have hj20 : (j : Int) < 20 := by omega
              by_cases hj0 : j = 0
              · subst hj0
                clear hc hs2 hs3 hs5 hcW hbW hxr hsm hb hj
                rw [Nat.add_zero] at d0
                go_wp2_with fail
                go_big_quiet (fail)
                go_wp2_with fail
                go_roundw
                case rel => exact ⟨0 + 1, n + nq, by omega, by go_num, by rw [HN.out, World.drewN_drewN]⟩
                case measure => simp [intOf]; omega
              · obtain ⟨i, rfl⟩ : ∃ i, j = i + 1 := ⟨j - 1, by omega⟩
                obtain ⟨s', x', hs1', hs2', hs3', hs4', hs5'⟩ := HT.out.entry (show i < L.length by omega)
                have d2 := (hcW _ _).trans (hc i (by rw [List.length_map]; omega))
                rw [List.getElem_map, hs2'] at d2
                have d3 := (hcW _ _).trans (HQ5.out.cellAt HT.out.len.symm hs3')
                have hlt := HT.out.before (show i < i + 1 by omega) hjl
                have hxx : x' < x := by omega
                have hi1 : (i : Int) < L.length := by omega
                have hi2 : (i : Int) + 1 < L.length := by omega
                have hi20 : (i : Int) < 20 := by omega
                have e5 : decide (x ≤ x') = false := decide_eq_false (by omega)
                clear hc hs2 hs3 hs5 hs2' hs3' hs5' hlt hcW hbW hxr hsm hb hxx hj0 hj
                go_wp2_with fail
                go_big_quiet (fail)
                go_wp2_with fail
                go_roundw
                case rel => exact ⟨i + 1 + 1, n + nq, by omega, by go_num, by rw [HN.out, World.drewN_drewN]⟩
                case measure => simp [intOf]; omega
            · obtain rfl : j = L.length := by omega
              have HB6 := Lib.hid (HB1.out.step (HQ5.out.qe.below.trans (hbW.mono HQ5.out.qe.below.size)) hz1)
              clear hcW hbW
              go_wp2_with fail
              go_ret
              exact ⟨rfl, HB6.out⟩

theorem order_ok (l0 : Option Addr) (len cap : Nat) (c : Nat → Int) (w : World) (hC : len = 0 ∨ ∃ b off, l0 = some ⟨b, off, none⟩ ∧ b < w.heap.size ∧ IntsAt w b off len c) (hcr : ∀ i, i < len → -9223372036854775808 ≤ c i ∧ c i ≤ 9223372036854775807) :
    Calls Try.prog 4 #[.slice l0 len cap] w fun e w' => e = .returned (.bool true) ∧ Below w.heap.size w w' := by
  by_cases h : len ≤ 300
  · exact order_walk l0 len cap c w h hC hcr
  · exact order_early l0 len cap w (by omega)

set_option maxRecDepth 100000 in
theorem order_lifted (os : Os) (started : os.Started) (H : Type) (enc : TypeId × Value → H) :
    ReturnsInHanded {} Try.checked os 4 .any (Rows.queueOrderSpec.pre6 enc Try.prog Try.f4 Rows.queueOrderRow.domain false) (Rows.queueOrderSpec.post enc Try.prog Try.f4 false true false false) := by
  refine returnsInHanded_of_change (C := Try.checked) own started (by kernel_rfl) Try.func4
    (ChangeSpec.witness6 (enc := enc) (C := Try.checked) false ⟨#[], #[.slice none 0 0], []⟩ 8 (by kernel_rfl) (by kernel_rfl) (by kernel_rfl) (by kernel_rfl)) ?_
  intro W base args ds gs before hval0 hW _ _
  have hval : ∀ (j : Nat) t v, Try.f4.params[j]? = some t → args[j]? = some v → Value.okWide Try.prog W .any base t v := hval0
  have hW' := hW
  obtain ⟨p, q, hA0, hV, rfl, _, _⟩ := hW
  have hA : DataW.TrodAll enc Try.prog W 0 (fun _ => true) true Try.f4.params.toList args.toList ds p := hA0
  rw [Try.params4] at hA hval
  obtain ⟨v0, d0, rfl, rfl, h0⟩ := trodAll_one hA
  obtain ⟨rfl, rfl⟩ := trodVars_none hV
  obtain ⟨a0, len, cap, rfl⟩ := okWide_slice Try.underlying37 (hval 0 37 v0 rfl rfl)
  obtain ⟨c, hcr, hC⟩ := open_row h0
  refine (order_ok a0 len cap c W hC hcr).mono fun e W' ⟨he, hb⟩ => ?_
  subst he
  exact ⟨_, rfl, law_shut laidOut (by kernel_rfl) (by kernel_rfl) Try.underlying4 rfl hW' rfl hb⟩

theorem order_holds : Rows.QueueOrderSaid :=
  OpenClaim.holds_of_wide 4 Try.f4 rfl rfl rfl rfl rfl rfl rfl ⟨rfl, rfl, rfl, rfl, rfl⟩ rfl rfl rfl rfl rfl (by kernel_rfl) Try.func4 (by kernel_rfl)
    (of_decide_eq_true (by kernel_rfl)) (by unfold Func.isWrapper; rw [if_neg (of_decide_eq_false (by kernel_rfl))]; exact ⟨rfl, rfl⟩)
    (fun os started H enc _ => order_lifted os started H enc)
end Go.Proofs.Ytcklfdpmggoafaa
