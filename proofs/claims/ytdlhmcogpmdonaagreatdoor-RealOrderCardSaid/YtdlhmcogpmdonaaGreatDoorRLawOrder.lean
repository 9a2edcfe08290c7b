/- A form is its own form, and equal to what it is of; the order goes both ways, and through a third one; equal ones have one form, but for -0 and 0: RealOrder answers true, whatever three texts it is called with, and leaves what was there as it was. (Over the listed tables of the library, tied to the program's text.) -/
import Derived.Test.YtdlhmcogpmdonaaGreatDoorRCard
import Derived.Test.YtdlhmcogpmdonaaGreatDoorRShown
import Derived.Test.YtdlhmcogpmdonaaGreatDoorROrdM
namespace Go.Proofs.YtdlhmcogpmdonaaGreatDoor
open Go.RowKit Go.Lib Go.WideShapes Go.ChangeShapes Go.ChangeAt Go.Joins

theorem order_through (n m k : Num) : (n.cmp m ≤ 0 → m.cmp k ≤ 0 → n.cmp k ≤ 0) ∧ (n.cmp m < 0 → m.cmp k < 0 → n.cmp k < 0) := by
  have h1 := cmp_sign n m; have h2 := cmp_sign m k; have h3 := cmp_sign n k
  constructor <;> intro a b <;> omega
set_option maxRecDepth 100000 in
set_option maxHeartbeats 8000000 in
theorem order_bad (w : World) (a b c : ByteArray) (hT : Tabs w) (hw : 1 ≤ w.heap.size) (hz : a.size + b.size + c.size ≤ 3000) (eA eB eC : Int) (he : eA = 9 ∨ (eA = 0 ∧ eB = 9) ∨ (eA = 0 ∧ eB = 0 ∧ eC = 9)) (h1 : cE (bytes a) = eA) (h2 : cE (bytes b) = eB) (h3 : cE (bytes c) = eC) :
    Calls Tryz.prog 4 #[.string a, .string b, .string c] w fun e w' => e = .returned (.bool true) ∧ Below w.heap.size w w' := by
  have HSH := Lib.hid (fun W hT hw => shown_any W hT hw)
  have HT := Lib.hid hT
  clear hT
  have hz' : (a.size : Int) + b.size + c.size ≤ 3000 := by omega
  have K2 := Lib.hid (fun W hT hw => canon_at a W hT hw (by omega))
  have K3 := Lib.hid (fun W hT hw => canon_at b W hT hw (by omega))
  have K4 := Lib.hid (fun W hT hw => canon_at c W hT hw (by omega))
  rw [h1] at K2
  rw [h2] at K3
  rw [h3] at K4
  generalize (⟨(cS (bytes a)).toArray⟩ : ByteArray) = x at K2
  generalize (⟨(cS (bytes b)).toArray⟩ : ByteArray) = y at K3
  generalize (⟨(cS (bytes c)).toArray⟩ : ByteArray) = z at K4
  clear hz h1 h2 h3
  rcases he with rfl | ⟨rfl, rfl⟩ | ⟨rfl, rfl, rfl⟩
  all_goals
    go_enter Tryz.func4, Tryz.ntmps4
    go_wp2_with fail
    refine (HSH.out _ HT.out hw).mono ?_; rintro e w1 ⟨rfl, hb⟩
    have H1 := Lib.hid hb
    clear hb
    go_wp2_with fail
    refine (K2.out _ (HT.out.step H1.out) (Nat.le_trans hw H1.out.size)).mono ?_; rintro e w12 ⟨rfl, hb⟩
    have H12 := Lib.hid (H1.out.on hb)
    clear hb
    go_wp2_with fail
    refine (K3.out _ (HT.out.step H12.out) (Nat.le_trans hw H12.out.size)).mono ?_; rintro e w13 ⟨rfl, hb⟩
    have H13 := Lib.hid (H12.out.on hb)
    clear hb
    go_wp2_with fail
    refine (K4.out _ (HT.out.step H13.out) (Nat.le_trans hw H13.out.size)).mono ?_; rintro e w14 ⟨rfl, hb⟩
    have H14 := Lib.hid (H13.out.on hb)
    clear hb
    go_wp2_with fail
    go_ret
    exact ⟨rfl, H14.out⟩
set_option maxRecDepth 100000 in
set_option maxHeartbeats 16000000 in
theorem order_walk (w : World) (a b c : ByteArray) (hT : Tabs w) (hw : 1 ≤ w.heap.size) (za : a.size ≤ 140737488351232) (zb : b.size ≤ 140737488351232) (zc : c.size ≤ 140737488351232) :
    Calls Tryz.prog 4 #[.string a, .string b, .string c] w fun e w' => e = .returned (.bool true) ∧ Below w.heap.size w w' := by
  have HSH := Lib.hid (fun W hT hw => shown_any W hT hw)
  have HT := Lib.hid hT
  clear hT
  by_cases hz : a.size + b.size + c.size ≤ 3000
  · have hz' : (a.size : Int) + b.size + c.size ≤ 3000 := by omega
    have K2 := Lib.hid (fun W hT hw => canon_at a W hT hw (by omega))
    have K3 := Lib.hid (fun W hT hw => canon_at b W hT hw (by omega))
    have K4 := Lib.hid (fun W hT hw => canon_at c W hT hw (by omega))
    have K6 := Lib.hid (fun W hT => cmp_at a b W hT (by omega) (by omega))
    have K7 := Lib.hid (fun W hT => cmp_at b a W hT (by omega) (by omega))
    have K8 := Lib.hid (fun W hT => cmp_at b c W hT (by omega) (by omega))
    have K9 := Lib.hid (fun W hT => cmp_at a c W hT (by omega) (by omega))
    cases hn : numB (bytes a) with
    | none => exact order_bad w a b c HT.out hw hz 9 _ _ (.inl rfl) (cE_none hn) rfl rfl
    | some n =>
      cases hm : numB (bytes b) with
      | none => exact order_bad w a b c HT.out hw hz 0 9 _ (.inr (.inl ⟨rfl, rfl⟩)) (cE_num hn) (cE_none hm) rfl
      | some m =>
        cases hk : numB (bytes c) with
        | none => exact order_bad w a b c HT.out hw hz 0 0 9 (.inr (.inr ⟨rfl, rfl, rfl⟩)) (cE_num hn) (cE_num hm) (cE_none hk)
        | some k =>
          have hno := num_okB hn; have hmo := num_okB hm
          have hx5 : bytes ⟨(cS (bytes a)).toArray⟩ = cS (bytes a) := bytes_mk _
          have hxl : (⟨(cS (bytes a)).toArray⟩ : ByteArray).size ≤ 17 := by rw [size_mk, cS_num hn]; exact canon_short hno
          have k5 := fun W hT hw => canon_at ⟨(cS (bytes a)).toArray⟩ W hT hw (by omega)
          have k10 := fun W hT => cmp_at a ⟨(cS (bytes a)).toArray⟩ W hT (by omega) (by omega)
          rw [hx5] at k5 k10
          rw [cS_num (num_cS hn), ← cS_num hn, cE_num (num_cS hn)] at k5
          rw [zC_of hn (num_cS hn), zE_of hn (num_cS hn), cmp_self] at k10
          rw [cE_num hn] at K2
          rw [cE_num hm] at K3
          rw [cE_num hk] at K4
          rw [zC_of hn hm, zE_of hn hm] at K6
          rw [zC_of hm hn, zE_of hm hn, cmp_flip] at K7
          rw [zC_of hm hk, zE_of hm hk] at K8
          rw [zC_of hn hk, zE_of hn hk] at K9
          have K5 := Lib.hid k5
          have K10 := Lib.hid k10
          have hth := order_through n m k
          have hs1 := cmp_range n m; have hs2 := cmp_range m k; have hs3 := cmp_range n k
          have hsf := same_form hno hmo
          rw [← cS_num hn, ← cS_num hm] at hsf
          obtain ⟨X, hX⟩ : ∃ X : ByteArray, X = ⟨(cS (bytes a)).toArray⟩ := ⟨_, rfl⟩
          obtain ⟨Y, hY⟩ : ∃ Y : ByteArray, Y = ⟨(cS (bytes b)).toArray⟩ := ⟨_, rfl⟩
          have hbX : X.toList = cS (bytes a) := by rw [hX, mk_data]
          have hbY : Y.toList = cS (bytes b) := by rw [hY, mk_data]
          rw [← hbX, ← hbY] at hsf
          rw [← hX] at K2 K5 K10
          rw [← hY] at K3
          generalize (⟨(cS (bytes c)).toArray⟩ : ByteArray) = Z at K4
          generalize n.cmp m = p at K6 K7 hth hs1 hsf
          generalize m.cmp k = r at K8 hth hs2
          generalize n.cmp k = s at K9 hth hs3
          have HSF := Lib.hid hsf
          have HTH := Lib.hid hth
          have HS1 := Lib.hid hs1; have HS2 := Lib.hid hs2; have HS3 := Lib.hid hs3
          clear hX hY hbX hbY hsf hth hs1 hs2 hs3 hn hm hk hno hmo hx5 hxl k5 k10 hz
          go_enter Tryz.func4, Tryz.ntmps4
          go_wp2_with fail
          refine (HSH.out _ HT.out hw).mono ?_; rintro e w1 ⟨rfl, hb⟩
          have H1 := Lib.hid hb
          clear hb
          go_wp2_with fail
          refine (K2.out _ (HT.out.step H1.out) (Nat.le_trans hw H1.out.size)).mono ?_; rintro e w22 ⟨rfl, hb⟩
          have H22 := Lib.hid (H1.out.on hb)
          clear hb
          go_wp2_with fail
          refine (K3.out _ (HT.out.step H22.out) (Nat.le_trans hw H22.out.size)).mono ?_; rintro e w23 ⟨rfl, hb⟩
          have H23 := Lib.hid (H22.out.on hb)
          clear hb
          go_wp2_with fail
          refine (K4.out _ (HT.out.step H23.out) (Nat.le_trans hw H23.out.size)).mono ?_; rintro e w24 ⟨rfl, hb⟩
          have H24 := Lib.hid (H23.out.on hb)
          clear hb
          go_wp2_with fail
          refine (K5.out _ (HT.out.step H24.out) (Nat.le_trans hw H24.out.size)).mono ?_; rintro e w25 ⟨rfl, hb⟩
          have H25 := Lib.hid (H24.out.on hb)
          clear hb
          go_wp2_with fail
          refine (K10.out _ (HT.out.step H25.out)).mono ?_; rintro e w26 ⟨rfl, hb⟩
          have H26 := Lib.hid (H25.out.on hb)
          clear hb
          go_wp2_with fail
          refine (K6.out _ (HT.out.step H26.out)).mono ?_; rintro e w27 ⟨rfl, hb⟩
          have H27 := Lib.hid (H26.out.on hb)
          clear hb
          go_wp2_with fail
          refine (K7.out _ (HT.out.step H27.out)).mono ?_; rintro e w28 ⟨rfl, hb⟩
          have H28 := Lib.hid (H27.out.on hb)
          clear hb
          go_wp2_with fail
          refine (K8.out _ (HT.out.step H28.out)).mono ?_; rintro e w29 ⟨rfl, hb⟩
          have H29 := Lib.hid (H28.out.on hb)
          clear hb
          go_wp2_with fail
          refine (K9.out _ (HT.out.step H29.out)).mono ?_; rintro e w30 ⟨rfl, hb⟩
          have H30 := Lib.hid (H29.out.on hb)
          clear hb
          go_upto_region 15 with (fail)
          go_cut [145] (fun x wx => x = .bool false ∧ wx = w30)
          case first =>
            obtain ⟨t1, t2⟩ := HTH.out
            have s1 := HS1.out; have s2 := HS2.out; have s3 := HS3.out
            rcases (by omega : p = 1 ∨ (p = 0 ∧ r = 1) ∨ (p = 0 ∧ r ≤ 0 ∧ s ≤ 0) ∨ (p = -1 ∧ r = 1) ∨ (p = -1 ∧ r = 0 ∧ s ≤ 0) ∨ (p = -1 ∧ r = -1 ∧ s = -1)) with rfl | ⟨rfl, rfl⟩ | ⟨rfl, h1, h2⟩ | ⟨rfl, rfl⟩ | ⟨rfl, rfl, h1⟩ | ⟨rfl, rfl, rfl⟩
            all_goals
              clear t1 t2 s1 s2 s3
              go_wp2_with fail
              go_meet
              exact ⟨by first | rfl | rw [decide_eq_false (by omega)], rfl⟩
          case rest =>
            obtain ⟨rfl, rfl⟩ := hcut
            go_upto_region 17 with (fail)
            go_cut [6] (fun x wx => x = .bool true ∧ wx = wc)
            case first =>
              obtain ⟨u1, hu1⟩ : ∃ u, u = (X.toList == Y.toList) := ⟨_, rfl⟩
              obtain ⟨u2, hu2⟩ : ∃ u, u = (X.toList == [48]) := ⟨_, rfl⟩
              obtain ⟨u3, hu3⟩ : ∃ u, u = (Y.toList == [45, 48]) := ⟨_, rfl⟩
              obtain ⟨u4, hu4⟩ : ∃ u, u = (X.toList == [45, 48]) := ⟨_, rfl⟩
              obtain ⟨u5, hu5⟩ : ∃ u, u = (Y.toList == [48]) := ⟨_, rfl⟩
              have hp : (p == 0) = (u1 || ((u2 && u3) || (u4 && u5))) := by
                rw [Bool.eq_iff_iff, beq_iff_eq, HSF.out, hu1, hu2, hu3, hu4, hu5]
                simp only [Bool.or_eq_true, Bool.and_eq_true, beq_iff_eq]
              have hu1' := hu1.symm; have hu2' := hu2.symm; have hu3' := hu3.symm; have hu4' := hu4.symm; have hu5' := hu5.symm
              clear hu1 hu2 hu3 hu4 hu5
              have hc : (u1 = true ∧ (p == 0) = true) ∨ (u1 = false ∧ u2 = true ∧ u3 = true ∧ (p == 0) = true) ∨ (u1 = false ∧ u2 = true ∧ u3 = false ∧ u4 = true ∧ u5 = true ∧ (p == 0) = true) ∨ (u1 = false ∧ u2 = true ∧ u3 = false ∧ u4 = true ∧ u5 = false ∧ (p == 0) = false) ∨ (u1 = false ∧ u2 = true ∧ u3 = false ∧ u4 = false ∧ (p == 0) = false) ∨ (u1 = false ∧ u2 = false ∧ u4 = true ∧ u5 = true ∧ (p == 0) = true) ∨ (u1 = false ∧ u2 = false ∧ u4 = true ∧ u5 = false ∧ (p == 0) = false) ∨ (u1 = false ∧ u2 = false ∧ u4 = false ∧ (p == 0) = false) := by
                rw [hp]
                clear hp hu1' hu2' hu3' hu4' hu5'
                revert u1 u2 u3 u4 u5
                decide
              clear hp
              rcases hc with ⟨rfl, hp⟩ | ⟨rfl, rfl, rfl, hp⟩ | ⟨rfl, rfl, rfl, rfl, rfl, hp⟩ | ⟨rfl, rfl, rfl, rfl, rfl, hp⟩ | ⟨rfl, rfl, rfl, rfl, hp⟩ | ⟨rfl, rfl, rfl, rfl, hp⟩ | ⟨rfl, rfl, rfl, rfl, hp⟩ | ⟨rfl, rfl, rfl, hp⟩
              all_goals
                go_wp2_with fail
                go_meet
                exact ⟨rfl, rfl⟩
            case rest =>
              obtain ⟨rfl, rfl⟩ := hcut
              go_wp2_with fail
              go_ret
              exact ⟨rfl, H30.out⟩
  · have hz' : (3000 : Int) < (a.size : Int) + b.size + c.size := by omega
    clear hz
    go_enter Tryz.func4, Tryz.ntmps4
    go_wp2_with fail
    refine (HSH.out _ HT.out hw).mono ?_; rintro e w1 ⟨rfl, hb⟩
    have H1 := Lib.hid hb
    clear hb
    go_wp2_with fail
    go_ret
    exact ⟨rfl, H1.out⟩

set_option maxRecDepth 100000 in
theorem order_lifted (os : Os) (started : os.Started) (H : Type) (enc : TypeId × Value → H) :
    ReturnsInHanded {} Tryz.checked os 4 .any (fun w args => (Rows.realOrderSpec.pre enc Tryz.prog Tryz.f4 Rows.realOrderRow.domain false w args ∧ laidMetH Tryz.prog laidL w) ∧ sizedMet enc Tryz.prog Tryz.f4 (OpenSpec.ofChange Rows.realOrderSpec) false w args) (Rows.realOrderSpec.post enc Tryz.prog Tryz.f4 false true false false) := by
  refine handed_laid (C := Tryz.checked) (X := fun w _ => laidMetH Tryz.prog laidL w) (fun _ _ _ hh h => h.of_heap hh) own started (by kernel_rfl) Tryz.func4
    (ChangeSpec.witness_shaped (enc := enc) (C := Tryz.checked) (os := os) (X := fun w _ => laidMetH Tryz.prog laidL w) false (World.laidAll Tryz.prog os laidL) #[.string { data := #[] }, .string { data := #[] }, .string { data := #[] }] 8 (World.laidAll_os _ _ _) (World.shaped_of_ZipB (by kernel_rfl) (by kernel_rfl)) (by kernel_rfl) (by kernel_rfl) (by kernel_rfl)
      (by rw [MakeChecks.laidMetH_plain _ _ _ (by kernel_rfl)]; exact laidMet_laidAll _ (by kernel_rfl) (by kernel_rfl))) ?_
  intro W base args ds gs before hval0 hW hsz0 hsh hL
  obtain ⟨m, hm⟩ : ∃ m, W.cell? ⟨4, 0, none⟩ = some (.int .i64 m) := Tryz.laysM145.s1_3 W hsh
  have hT := tabs_of_laid ⟨m, hm⟩ hL
  have hw : 1 ≤ W.heap.size := Nat.lt_of_le_of_lt (Nat.zero_le _) (World.block_lt_of_cell? W ⟨4, 0, none⟩ hm)
  have hsz : (DataW.weightsEach Tryz.prog (Tryz.f4.params.toList ++ Rows.realOrderSpec.plain.varTypes Tryz.prog) (ds ++ gs)).all (· ≤ reachBytes) = true := hsz0
  clear hsz0
  have hval : ∀ (j : Nat) t v, Tryz.f4.params[j]? = some t → args[j]? = some v → Value.okWide Tryz.prog W .any base t v := hval0
  have hW' := hW
  obtain ⟨p, q, hA0, hV, rfl, _, _⟩ := hW
  have hA : DataW.TrodAll enc Tryz.prog W 0 (fun _ => true) true Tryz.f4.params.toList args.toList ds p := hA0
  rw [Tryz.params4] at hA hval hsz
  obtain ⟨v0, v1, v2, d0, d1, d2, p0, p1, p2, rfl, rfl, rfl, h0, h1, h2⟩ := trodAll_three hA
  obtain ⟨rfl, rfl⟩ := trodVars_none hV
  obtain ⟨a, rfl, rfl, rfl, hl_a⟩ := Go.ChangeMaps.open_string Tryz.underlying9 (hval 0 9 v0 rfl rfl) h0
  have hz_a : a.size ≤ 140737488351232 := by have := sized_string hsz (j := 0) (t := 9) rfl rfl; rw [size_list] at this; exact this
  obtain ⟨b, rfl, rfl, rfl, hl_b⟩ := Go.ChangeMaps.open_string Tryz.underlying9 (hval 1 9 v1 rfl rfl) h1
  have hz_b : b.size ≤ 140737488351232 := by have := sized_string hsz (j := 1) (t := 9) rfl rfl; rw [size_list] at this; exact this
  obtain ⟨c, rfl, rfl, rfl, hl_c⟩ := Go.ChangeMaps.open_string Tryz.underlying9 (hval 2 9 v2 rfl rfl) h2
  have hz_c : c.size ≤ 140737488351232 := by have := sized_string hsz (j := 2) (t := 9) rfl rfl; rw [size_list] at this; exact this
  refine (order_walk W a b c hT hw hz_a hz_b hz_c).mono fun e W' ⟨he, hb⟩ => ?_
  subst he
  exact ⟨_, rfl, law_shut laidOut (by kernel_rfl) (by kernel_rfl) Tryz.underlying4 rfl hW' rfl hb⟩

theorem order_holds : Rows.RealOrderSaid :=
  OpenClaim.holds_of_wide 4 Tryz.f4 rfl rfl rfl rfl rfl rfl rfl ⟨rfl, rfl, rfl, rfl, rfl⟩ rfl rfl rfl rfl rfl (by kernel_rfl) Tryz.func4 (by kernel_rfl)
    (of_decide_eq_true (by kernel_rfl)) (by unfold Func.isWrapper; rw [if_neg (of_decide_eq_false (by kernel_rfl))]; exact ⟨rfl, rfl⟩)
    (fun os started H enc _ => order_lifted os started H enc)

theorem order_card : Rows.RealOrderCardSaid :=
  Claim7.holds_tied_plain_at .later [] [.data, .data, .widerDeep, .widerDeep, .data, .data, .data, .data, .data, .data, .sentinel, .sentinel, .pinned, .pinned, .pinned] true _ true order_holds (fun _ h => by cases h) (by kernel_rfl) (fun _ h => by cases h) realOrder_row_tie rfl ⟨rfl, rfl⟩ (by kernel_rfl) rfl
    (fun f fn hf hfn => by
      obtain rfl : f = 4 := Option.some.inj ((show Tryz.prog.funcNamed "taxirank/taxiranklaw5.RealOrder" = some 4 by kernel_rfl).symm.trans hf) |>.symm
      obtain rfl : fn = Tryz.f4 := (Option.some.inj (Tryz.func4.symm.trans hfn)).symm
      exact ⟨by kernel_rfl, fun j t ht => by
        rw [Tryz.params4] at ht
        have hm : t ∈ [9, 9, 9] := by simpa using Array.mem_of_getElem? ht
        have hall : ([9, 9, 9].all fun u => !Tryz.prog.wantsStandIn u) = true := by kernel_rfl
        exact (show Tryz.prog.wantsStandIn t = false by simpa using List.all_eq_true.1 hall t hm)⟩)
    (by kernel_rfl)
end Go.Proofs.YtdlhmcogpmdonaaGreatDoor
