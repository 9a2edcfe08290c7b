/- Contracts and mathematics: EEnc. -/
import Derived.Test.YtmofnkinclckoaaGreatDoorZ33
import Derived.Test.YtmofnkinclckoaaGreatDoorZ7
namespace Go.Proofs.YtmofnkinclckoaaGreatDoor
open Go.RowKit Go.Lib Go.WideShapes

set_option maxRecDepth 100000 in
set_option maxHeartbeats 16000000 in
theorem rencode_any (w : World) (back : Bool) (c : UInt8) (T : List Bs) (N : List Int) (tv nv : Value) (hT : TextsIn w tv T) (hN : NumsIn w nv N) (hr : room ⟨T, N, []⟩ ≤ 800000) (hTl : T.length ≤ 10000) :
    Calls Tryz.prog 41 #[.bool back, .agg #[.int .u8 (c.toNat : Nat), tv, nv]] w fun e w' => e = .returned (encV c (written back c T N)) ∧ Below w.heap.size w w' := by
  obtain ⟨ci, hci⟩ : ∃ ci : Int, ci = (c.toNat : Nat) := ⟨_, rfl⟩
  rw [← hci]
  have HCI := Lib.hid hci
  have HT0 := Lib.hid hT; have HN0 := Lib.hid hN
  have HTL := Lib.hid hTl
  obtain ⟨at', nt, ct, rfl, _⟩ := hT
  obtain ⟨an, nn, cn, rfl, hnl, hnc, hnm, hncell⟩ := hN
  have HNL := Lib.hid hnl
  have HNC := Lib.hid hncell
  have HROOM := Lib.hid (show xr ⟨T, N, [], false⟩ ≤ 800000 from hr)
  obtain ⟨W0, hW0⟩ : ∃ x, x = ((w.alloc (.cells #[.int .u8 ci, .slice at' nt ct, .slice an nn cn] 72)).alloc (.cells #[.int .u8 0, .string { data := #[] }] 58)) := ⟨_, rfl⟩
  have hsz : W0.heap.size = w.heap.size + 1 + 1 := by rw [hW0]; simp
  have HB := Lib.hid (show Below w.heap.size w W0 by rw [hW0]; exact ((Below.refl _ _).alloc (Nat.le_refl _) _).alloc (by simp) _)
  have HK := Lib.hid (show (W0.cell? ⟨w.heap.size, 0, none⟩ = some (.int .u8 ci) ∧ W0.cell? ⟨w.heap.size, 1, none⟩ = some (.slice at' nt ct) ∧ W0.cell? ⟨w.heap.size, 2, none⟩ = some (.slice an nn cn)) ∧ W0.cell? ⟨w.heap.size + 1, 0, none⟩ = some (.int .u8 0) ∧ W0.cell? ⟨w.heap.size + 1, 1, none⟩ = some (.string { data := #[] }) ∧ W0.frozen? ⟨w.heap.size + 1, 0, none⟩ = false ∧ W0.frozen? ⟨w.heap.size + 1, 1, none⟩ = false by rw [hW0]; simp [go_sem])
  have HE := Lib.hid hW0
  have HSZ := Lib.hid hsz
  obtain ⟨R, hR⟩ : ∃ R, R = written back c T N := ⟨_, rfl⟩
  rw [← hR]
  have HR := Lib.hid hR
  have HLY := Lib.hid (rlay_any W0 back c)
  rw [← hci] at HLY
  clear hci hW0 hsz hr hR hTl hnl hncell
  cases hl : lay back c with
  | none =>
    rw [hl] at HLY
    have HRN := Lib.hid (show R = none by rw [HR.out, written_none hl])
    clear hl
    go_enter Tryz.func41, Tryz.ntmps41
    go_wp2_with fail
    rw [← HE.out]
    refine HLY.out.mono ?_; rintro e w1 ⟨rfl, hb1⟩
    have HB1 := Lib.hid (HB.out.trans (hb1.mono (by rw [HSZ.out]; omega)))
    have k : ∀ q i, q < W0.heap.size → w1.cell? ⟨q, i, none⟩ = W0.cell? ⟨q, i, none⟩ := fun q i h => hb1.cell (p := ⟨q, i, none⟩) h
    have kf : ∀ q i, q < W0.heap.size → w1.frozen? ⟨q, i, none⟩ = W0.frozen? ⟨q, i, none⟩ := fun q i h => hb1.frozen (p := ⟨q, i, none⟩) h
    have HS := Lib.hid (show w.heap.size < w1.heap.size ∧ w.heap.size + 1 < w1.heap.size by have := hb1.size; have := HSZ.out; omega)
    have hq0 : w.heap.size < W0.heap.size := by rw [HSZ.out]; omega
    have hq1 : w.heap.size + 1 < W0.heap.size := by rw [HSZ.out]; omega
    have k0 := (k _ 0 hq0).trans HK.out.1.1
    have k1 := (k _ 1 hq0).trans HK.out.1.2.1
    have k2 := (k _ 2 hq0).trans HK.out.1.2.2
    have g1 := (k _ 0 hq1).trans HK.out.2.1
    have g2 := (k _ 1 hq1).trans HK.out.2.2.1
    have g3 := (kf _ 0 hq1).trans HK.out.2.2.2.1
    have g4 := (kf _ 1 hq1).trans HK.out.2.2.2.2
    have G := Lib.hid (And.intro k0 (And.intro g1 (And.intro g2 (And.intro g3 g4))))
    have HT := Lib.hid (HT0.out.mono HB1.out |>.mono (Below.refl _ _))
    have HN := Lib.hid (HN0.out.mono HB1.out |>.mono (Below.refl _ _))
    clear hb1 k kf hq0 hq1
    unfold layV
    go_wp2_with fail
    rw [HRN.out]
    simp [bodyPost, results, Tryz.results41, go_sem, g1, g2, encV, encE]
    exact (HB1.out.setCell (by show w.heap.size ≤ w.heap.size + 1; omega) _).setCell (by show w.heap.size ≤ w.heap.size + 1; omega) _
  | some l =>
    rw [hl] at HLY
    by_cases hcan : back = false ∧ c = 0 ∧ N.head? = some 80877102
    · obtain ⟨rfl, hc0, hn0⟩ := hcan
      have hcb : (ci == 0) = true := by rw [HCI.out, hc0]; rfl
      obtain ⟨ns, rfl⟩ : ∃ ns, N = 80877102 :: ns := by
        cases N with
        | nil => cases hn0
        | cons a ns => exact ⟨ns, by rw [Option.some.inj hn0]⟩
      have HLY2 := HLY
      obtain ⟨l0, hl0⟩ : ∃ l0, l0 = l := ⟨_, rfl⟩
      rw [← hl0] at HLY
      obtain ⟨l, hl'⟩ : ∃ l' : Bs, l' = [105, 105, 105] := ⟨_, rfl⟩
      have HLET := Lib.hid (show ∀ d ∈ l, letter d = true by rw [hl']; decide)
      have HL5 := Lib.hid (show l.length ≤ 5 by rw [hl']; decide)
      have HENDS := Lib.hid (show ∀ x, xAll l ⟨T, 80877102 :: ns, [], false⟩ = x → Ends x R from by
        rintro x rfl
        rw [HR.out, hc0, written_cancel hn0, ← hl']
        exact ends_all HLET.out HTL.out)
      obtain ⟨gn, on, rfl, hgn, hcn⟩ := HNC.out.resolve_left (by intro h; cases h)
      have dn := hcn 0 _ rfl
      rw [Nat.add_zero] at dn
      have DN := Lib.hid dn
      have hnn : 0 < nn := by rw [← HNL.out]; exact Nat.succ_pos _
      have hnn' : (0 : Int) < nn := by omega
      have HLE := Lib.hid hl'
      clear hl hl0 HLY2 hcn dn hl' hc0
      go_enter Tryz.func41, Tryz.ntmps41
      go_wp2_with fail
      rw [← HE.out]
      refine HLY.out.mono ?_; rintro e w1 ⟨rfl, hb1⟩
      have HB1 := Lib.hid (HB.out.trans (hb1.mono (by rw [HSZ.out]; omega)))
      have k : ∀ q i, q < W0.heap.size → w1.cell? ⟨q, i, none⟩ = W0.cell? ⟨q, i, none⟩ := fun q i h => hb1.cell (p := ⟨q, i, none⟩) h
      have kf : ∀ q i, q < W0.heap.size → w1.frozen? ⟨q, i, none⟩ = W0.frozen? ⟨q, i, none⟩ := fun q i h => hb1.frozen (p := ⟨q, i, none⟩) h
      have HS := Lib.hid (show w.heap.size < w1.heap.size ∧ w.heap.size + 1 < w1.heap.size by have := hb1.size; have := HSZ.out; omega)
      have hq0 : w.heap.size < W0.heap.size := by rw [HSZ.out]; omega
      have hq1 : w.heap.size + 1 < W0.heap.size := by rw [HSZ.out]; omega
      have k0 := (k _ 0 hq0).trans HK.out.1.1
      have k1 := (k _ 1 hq0).trans HK.out.1.2.1
      have k2 := (k _ 2 hq0).trans HK.out.1.2.2
      have g1 := (k _ 0 hq1).trans HK.out.2.1
      have g2 := (k _ 1 hq1).trans HK.out.2.2.1
      have g3 := (kf _ 0 hq1).trans HK.out.2.2.2.1
      have g4 := (kf _ 1 hq1).trans HK.out.2.2.2.2
      have G := Lib.hid (And.intro k0 (And.intro g1 (And.intro g2 (And.intro g3 g4))))
      have HT := Lib.hid (HT0.out.mono HB1.out |>.mono (Below.refl _ _))
      have HN := Lib.hid (HN0.out.mono HB1.out |>.mono (Below.refl _ _))
      clear hb1 k kf hq0 hq1
      unfold layV
      have d0 := (HB1.out.cell (p := ⟨gn, on, none⟩) hgn).trans DN.out
      go_upto_region 7 with (fail)
      go_wp2_with fail
      clear d0
      obtain ⟨N, hNN⟩ : ∃ N, N = 80877102 :: ns := ⟨_, rfl⟩
      rw [← hNN] at HN HROOM HENDS
      clear hNN
      obtain ⟨L, hL⟩ : ∃ L : ByteArray, L = { data := #[105, 105, 105] } := ⟨_, rfl⟩
      have HLL := Lib.hid (show bytes L = l by rw [hL, HLE.out])
      have hl5 : L.size ≤ 5 := by rw [← blen, HLL.out]; exact HL5.out
      rw [← hL]
      clear hL
      go_loopw [9, 9] (fun i _ wr => ∃ (j : Nat) (x : XS), j ≤ L.size ∧ i = .int .i64 j ∧ xAll l ⟨T, N, [], false⟩ = xAll (l.drop j) x ∧ ((x.bad = false → xr x ≤ 800000) ∧ xr x ≤ 800021) ∧ IsR w1 wr x) (fun i _ _ => L.size - (RowKit.intOf i).toNat)
      case atStart => exact ⟨0, _, Nat.zero_le _, rfl, rfl, ⟨fun _ => HROOM.out, Nat.le_trans HROOM.out (by decide)⟩, isr_new HT.out HN.out (Below.refl _ _)⟩
      case round =>
        obtain ⟨j, x, hj, rfl, hk, hrm, tv', nv', hW⟩ := hrel
        have HK := Lib.hid hk
        have c3 := hW.c3
        have HW := Lib.hid hW
        have HR9 := Lib.hid (Nat.le_trans hrm.2 (show 800021 ≤ 850000 by decide))
        clear hk hW
        by_cases hlt : j < L.size
        · have hlt' : (j : Int) < L.size := by omega
          cases hb : x.bad with
          | true =>
            have HX := Lib.hid (all_bad HK.out hb)
            rw [hb] at c3
            clear hrm hb
            go_wp2_with fail
            clear c3
            have HEN := Lib.hid (HENDS.out x HX.out)
            have hb0 := HW.out.below
            have g0 : wr.cell? ⟨w.heap.size, 0, none⟩ = some (.int .u8 ci) := (hb0.cell (p := ⟨w.heap.size, 0, none⟩) (by exact HS.out.1)).trans G.out.1
            have g1 : wr.cell? ⟨w.heap.size + 1, 0, none⟩ = some (.int .u8 0) := (hb0.cell (p := ⟨w.heap.size + 1, 0, none⟩) (by exact HS.out.2)).trans G.out.2.1
            have g2 : wr.cell? ⟨w.heap.size + 1, 1, none⟩ = some (.string { data := #[] }) := (hb0.cell (p := ⟨w.heap.size + 1, 1, none⟩) (by exact HS.out.2)).trans G.out.2.2.1
            have g3 : wr.frozen? ⟨w.heap.size + 1, 0, none⟩ = false := (hb0.frozen (p := ⟨w.heap.size + 1, 0, none⟩) (by exact HS.out.2)).trans G.out.2.2.2.1
            have g4 : wr.frozen? ⟨w.heap.size + 1, 1, none⟩ = false := (hb0.frozen (p := ⟨w.heap.size + 1, 1, none⟩) (by exact HS.out.2)).trans G.out.2.2.2.2
            have HBB := Lib.hid (HB1.out.trans (hb0.mono (by have := HS.out.1; omega)))
            have c0 := HW.out.c0
            have c1 := HW.out.c1
            have c2 := HW.out.c2
            have c3 := HW.out.c3
            obtain ⟨xa, xn, xc, rfl, hxl, _⟩ := HW.out.texts
            obtain ⟨ya, yn, yc, rfl, hyl, _⟩ := HW.out.nums
            have hxs : xn ≤ 900000 := by have := texts_room (s := x); have h3 := HR9.out; omega
            have hys : yn ≤ 900000 := by have h1 := xr_eq x; have h3 := HR9.out; omega
            have hsz : x.B.length ≤ 900000 := by have := xr_len x; have h3 := HR9.out; omega
            have HXL := Lib.hid hxl; have HYL := Lib.hid hyl
            clear hb0 hxl hyl
            cases hb : x.bad with
            | true =>
              rw [hb] at c3
              have HRN := Lib.hid (show R = none from by
                rcases HEN.out with ⟨_, e⟩ | ⟨e, _⟩
                · exact e
                · rw [hb] at e; cases e)
              clear hb
              go_upto_region 11 with (fail)
              go_quiet (fail)
              go_wp2_with fail
              rw [HRN.out]
              simp [bodyPost, results, Tryz.results41, go_sem, g1, g2, encV, encE]
              exact ((below_drewN HBB.out _).setCell (by show w.heap.size ≤ w.heap.size + 1; omega) _).setCell (by show w.heap.size ≤ w.heap.size + 1; omega) _
            | false =>
              rw [hb] at c3
              have HRN := Lib.hid (show R = if x.T = [] ∧ x.N = [] then some x.B else none from by
                rcases HEN.out with ⟨e, _⟩ | ⟨_, e⟩
                · rw [hb] at e; cases e
                · exact e)
              clear hb
              by_cases hz : xn + yn = 0
              · obtain rfl : xn = 0 := by omega
                obtain rfl : yn = 0 := by omega
                have HR0 := Lib.hid (show R = some x.B by rw [HRN.out, if_pos ⟨List.length_eq_zero_iff.1 HXL.out, List.length_eq_zero_iff.1 HYL.out⟩])
                clear hz
                by_cases hlong : 10000 < x.B.length
                · have hl' : (10000 : Int) < x.B.length := by omega
                  go_upto_region 11 with (fail)
                  go_quiet (fail)
                  go_wp2_with fail
                  rw [HR0.out]
                  simp [bodyPost, results, Tryz.results41, go_sem, g1, g2, encV, encE, hlong]
                  exact ((below_drewN HBB.out _).setCell (by show w.heap.size ≤ w.heap.size + 1; omega) _).setCell (by show w.heap.size ≤ w.heap.size + 1; omega) _
                · have hl' : ¬ (10000 : Int) < x.B.length := by omega
                  go_upto_region 11 with (fail)
                  go_quiet (fail)
                  go_upto_region 15 with (fail)
                  go_region
                  all_goals
                    go_wp2_with fail
                    rw [HR0.out]
                    simp [bodyPost, results, Tryz.results41, go_sem, g1, g2, encV, encE, hlong, HCI.out]
                    exact ((below_drewN HBB.out _).setCell (by show w.heap.size ≤ w.heap.size + 1; omega) _).setCell (by show w.heap.size ≤ w.heap.size + 1; omega) _
              · have hz1 : (0 : Int) < (xn : Int) + yn := by omega
                have HR0 := Lib.hid (show R = none by
                  rw [HRN.out, if_neg]
                  rintro ⟨h1, h2⟩
                  have := HXL.out; have := HYL.out
                  rw [h1] at *; rw [h2] at *
                  simp at *
                  omega)
                clear hz
                go_upto_region 11 with (fail)
                go_quiet (fail)
                go_wp2_with fail
                rw [HR0.out]
                simp [bodyPost, results, Tryz.results41, go_sem, g1, g2, encV, encE]
                exact ((below_drewN HBB.out _).setCell (by show w.heap.size ≤ w.heap.size + 1; omega) _).setCell (by show w.heap.size ≤ w.heap.size + 1; omega) _
          | false =>
            have hr0 := hrm.1 hb
            have hlj : l[j]? = some L[j] := by rw [← HLL.out]; exact List.getElem?_eq_getElem (by rw [blen]; exact hlt)
            have HNX := Lib.hid (all_next HK.out hlj hb)
            have HLJ := Lib.hid (HLET.out L[j] (List.mem_of_getElem? hlj))
            have HRM := Lib.hid (show ((xField L[j] x).bad = false → xr (xField L[j] x) ≤ 800000) ∧ xr (xField L[j] x) ≤ 800021 from
              ⟨fun h => Nat.le_trans ((step_field _).good x h) hr0, Nat.le_trans ((step_field _).room x) (by omega)⟩)
            rw [hb] at c3
            clear hrm hb hr0 hlj
            go_wp2_with fail
            refine (rfield_any w1 wr x L[j] HLJ.out HR9.out ⟨_, _, HW.out⟩).mono ?_; rintro e w6 ⟨rfl, hI⟩
            have HI6 := Lib.hid hI
            clear hI
            go_wp2_with fail
            go_roundw
            case measure => first | omega | (simp [RowKit.intOf]; omega)
            case rel => exact ⟨j + 1, _, by omega, by go_num, HNX.out, HRM.out, HI6.out⟩
        · have hjz : j = L.size := by omega
          have HX := Lib.hid (show xAll l ⟨T, N, [], false⟩ = x by
            have := HK.out
            rw [hjz, ← blen, HLL.out, List.drop_length] at this
            exact this)
          have hge : ¬ (j : Int) < L.size := by omega
          clear hjz hrm
          go_wp2_with fail
          clear c3
          have HEN := Lib.hid (HENDS.out x HX.out)
          have hb0 := HW.out.below
          have g0 : wr.cell? ⟨w.heap.size, 0, none⟩ = some (.int .u8 ci) := (hb0.cell (p := ⟨w.heap.size, 0, none⟩) (by exact HS.out.1)).trans G.out.1
          have g1 : wr.cell? ⟨w.heap.size + 1, 0, none⟩ = some (.int .u8 0) := (hb0.cell (p := ⟨w.heap.size + 1, 0, none⟩) (by exact HS.out.2)).trans G.out.2.1
          have g2 : wr.cell? ⟨w.heap.size + 1, 1, none⟩ = some (.string { data := #[] }) := (hb0.cell (p := ⟨w.heap.size + 1, 1, none⟩) (by exact HS.out.2)).trans G.out.2.2.1
          have g3 : wr.frozen? ⟨w.heap.size + 1, 0, none⟩ = false := (hb0.frozen (p := ⟨w.heap.size + 1, 0, none⟩) (by exact HS.out.2)).trans G.out.2.2.2.1
          have g4 : wr.frozen? ⟨w.heap.size + 1, 1, none⟩ = false := (hb0.frozen (p := ⟨w.heap.size + 1, 1, none⟩) (by exact HS.out.2)).trans G.out.2.2.2.2
          have HBB := Lib.hid (HB1.out.trans (hb0.mono (by have := HS.out.1; omega)))
          have c0 := HW.out.c0
          have c1 := HW.out.c1
          have c2 := HW.out.c2
          have c3 := HW.out.c3
          obtain ⟨xa, xn, xc, rfl, hxl, _⟩ := HW.out.texts
          obtain ⟨ya, yn, yc, rfl, hyl, _⟩ := HW.out.nums
          have hxs : xn ≤ 900000 := by have := texts_room (s := x); have h3 := HR9.out; omega
          have hys : yn ≤ 900000 := by have h1 := xr_eq x; have h3 := HR9.out; omega
          have hsz : x.B.length ≤ 900000 := by have := xr_len x; have h3 := HR9.out; omega
          have HXL := Lib.hid hxl; have HYL := Lib.hid hyl
          clear hb0 hxl hyl
          cases hb : x.bad with
          | true =>
            rw [hb] at c3
            have HRN := Lib.hid (show R = none from by
              rcases HEN.out with ⟨_, e⟩ | ⟨e, _⟩
              · exact e
              · rw [hb] at e; cases e)
            clear hb
            go_upto_region 11 with (fail)
            go_quiet (fail)
            go_wp2_with fail
            rw [HRN.out]
            simp [bodyPost, results, Tryz.results41, go_sem, g1, g2, encV, encE]
            exact ((below_drewN HBB.out _).setCell (by show w.heap.size ≤ w.heap.size + 1; omega) _).setCell (by show w.heap.size ≤ w.heap.size + 1; omega) _
          | false =>
            rw [hb] at c3
            have HRN := Lib.hid (show R = if x.T = [] ∧ x.N = [] then some x.B else none from by
              rcases HEN.out with ⟨e, _⟩ | ⟨_, e⟩
              · rw [hb] at e; cases e
              · exact e)
            clear hb
            by_cases hz : xn + yn = 0
            · obtain rfl : xn = 0 := by omega
              obtain rfl : yn = 0 := by omega
              have HR0 := Lib.hid (show R = some x.B by rw [HRN.out, if_pos ⟨List.length_eq_zero_iff.1 HXL.out, List.length_eq_zero_iff.1 HYL.out⟩])
              clear hz
              by_cases hlong : 10000 < x.B.length
              · have hl' : (10000 : Int) < x.B.length := by omega
                go_upto_region 11 with (fail)
                go_quiet (fail)
                go_wp2_with fail
                rw [HR0.out]
                simp [bodyPost, results, Tryz.results41, go_sem, g1, g2, encV, encE, hlong]
                exact ((below_drewN HBB.out _).setCell (by show w.heap.size ≤ w.heap.size + 1; omega) _).setCell (by show w.heap.size ≤ w.heap.size + 1; omega) _
              · have hl' : ¬ (10000 : Int) < x.B.length := by omega
                go_upto_region 11 with (fail)
                go_quiet (fail)
                go_upto_region 15 with (fail)
                go_region
                all_goals
                  go_wp2_with fail
                  rw [HR0.out]
                  simp [bodyPost, results, Tryz.results41, go_sem, g1, g2, encV, encE, hlong, HCI.out]
                  exact ((below_drewN HBB.out _).setCell (by show w.heap.size ≤ w.heap.size + 1; omega) _).setCell (by show w.heap.size ≤ w.heap.size + 1; omega) _
            · have hz1 : (0 : Int) < (xn : Int) + yn := by omega
              have HR0 := Lib.hid (show R = none by
                rw [HRN.out, if_neg]
                rintro ⟨h1, h2⟩
                have := HXL.out; have := HYL.out
                rw [h1] at *; rw [h2] at *
                simp at *
                omega)
              clear hz
              go_upto_region 11 with (fail)
              go_quiet (fail)
              go_wp2_with fail
              rw [HR0.out]
              simp [bodyPost, results, Tryz.results41, go_sem, g1, g2, encV, encE]
              exact ((below_drewN HBB.out _).setCell (by show w.heap.size ≤ w.heap.size + 1; omega) _).setCell (by show w.heap.size ≤ w.heap.size + 1; omega) _
    · have HW' := Lib.hid (written_some (T := T) hl hcan)
      have HLL0 := Lib.hid (lay_letters hl)
      have HLET := Lib.hid HLL0.out.1
      have HL5 := Lib.hid HLL0.out.2
      have HENDS := Lib.hid (show ∀ x, xAll l ⟨T, N, [], false⟩ = x → Ends x R from by
        rintro x rfl
        rw [HR.out, HW'.out]
        exact ends_all HLET.out HTL.out)
      clear hl HLL0
      cases back with
      | true =>
        clear hcan
        go_enter Tryz.func41, Tryz.ntmps41
        go_wp2_with fail
        rw [← HE.out]
        refine HLY.out.mono ?_; rintro e w1 ⟨rfl, hb1⟩
        have HB1 := Lib.hid (HB.out.trans (hb1.mono (by rw [HSZ.out]; omega)))
        have k : ∀ q i, q < W0.heap.size → w1.cell? ⟨q, i, none⟩ = W0.cell? ⟨q, i, none⟩ := fun q i h => hb1.cell (p := ⟨q, i, none⟩) h
        have kf : ∀ q i, q < W0.heap.size → w1.frozen? ⟨q, i, none⟩ = W0.frozen? ⟨q, i, none⟩ := fun q i h => hb1.frozen (p := ⟨q, i, none⟩) h
        have HS := Lib.hid (show w.heap.size < w1.heap.size ∧ w.heap.size + 1 < w1.heap.size by have := hb1.size; have := HSZ.out; omega)
        have hq0 : w.heap.size < W0.heap.size := by rw [HSZ.out]; omega
        have hq1 : w.heap.size + 1 < W0.heap.size := by rw [HSZ.out]; omega
        have k0 := (k _ 0 hq0).trans HK.out.1.1
        have k1 := (k _ 1 hq0).trans HK.out.1.2.1
        have k2 := (k _ 2 hq0).trans HK.out.1.2.2
        have g1 := (k _ 0 hq1).trans HK.out.2.1
        have g2 := (k _ 1 hq1).trans HK.out.2.2.1
        have g3 := (kf _ 0 hq1).trans HK.out.2.2.2.1
        have g4 := (kf _ 1 hq1).trans HK.out.2.2.2.2
        have G := Lib.hid (And.intro k0 (And.intro g1 (And.intro g2 (And.intro g3 g4))))
        have HT := Lib.hid (HT0.out.mono HB1.out |>.mono (Below.refl _ _))
        have HN := Lib.hid (HN0.out.mono HB1.out |>.mono (Below.refl _ _))
        clear hb1 k kf hq0 hq1
        unfold layV
        go_upto_region 7 with (fail)
        go_wp2_with fail
        obtain ⟨L, hL⟩ : ∃ L : ByteArray, L = ⟨l.toArray⟩ := ⟨_, rfl⟩
        have HLL := Lib.hid (show bytes L = l by rw [hL])
        have hl5 : L.size ≤ 5 := by rw [← blen, HLL.out]; exact HL5.out
        rw [← hL]
        clear hL
        go_loopw [9, 9] (fun i _ wr => ∃ (j : Nat) (x : XS), j ≤ L.size ∧ i = .int .i64 j ∧ xAll l ⟨T, N, [], false⟩ = xAll (l.drop j) x ∧ ((x.bad = false → xr x ≤ 800000) ∧ xr x ≤ 800021) ∧ IsR w1 wr x) (fun i _ _ => L.size - (RowKit.intOf i).toNat)
        case atStart => exact ⟨0, _, Nat.zero_le _, rfl, rfl, ⟨fun _ => HROOM.out, Nat.le_trans HROOM.out (by decide)⟩, isr_new HT.out HN.out (Below.refl _ _)⟩
        case round =>
          obtain ⟨j, x, hj, rfl, hk, hrm, tv', nv', hW⟩ := hrel
          have HK := Lib.hid hk
          have c3 := hW.c3
          have HW := Lib.hid hW
          have HR9 := Lib.hid (Nat.le_trans hrm.2 (show 800021 ≤ 850000 by decide))
          clear hk hW
          by_cases hlt : j < L.size
          · have hlt' : (j : Int) < L.size := by omega
            cases hb : x.bad with
            | true =>
              have HX := Lib.hid (all_bad HK.out hb)
              rw [hb] at c3
              clear hrm hb
              go_wp2_with fail
              clear c3
              have HEN := Lib.hid (HENDS.out x HX.out)
              have hb0 := HW.out.below
              have g0 : wr.cell? ⟨w.heap.size, 0, none⟩ = some (.int .u8 ci) := (hb0.cell (p := ⟨w.heap.size, 0, none⟩) (by exact HS.out.1)).trans G.out.1
              have g1 : wr.cell? ⟨w.heap.size + 1, 0, none⟩ = some (.int .u8 0) := (hb0.cell (p := ⟨w.heap.size + 1, 0, none⟩) (by exact HS.out.2)).trans G.out.2.1
              have g2 : wr.cell? ⟨w.heap.size + 1, 1, none⟩ = some (.string { data := #[] }) := (hb0.cell (p := ⟨w.heap.size + 1, 1, none⟩) (by exact HS.out.2)).trans G.out.2.2.1
              have g3 : wr.frozen? ⟨w.heap.size + 1, 0, none⟩ = false := (hb0.frozen (p := ⟨w.heap.size + 1, 0, none⟩) (by exact HS.out.2)).trans G.out.2.2.2.1
              have g4 : wr.frozen? ⟨w.heap.size + 1, 1, none⟩ = false := (hb0.frozen (p := ⟨w.heap.size + 1, 1, none⟩) (by exact HS.out.2)).trans G.out.2.2.2.2
              have HBB := Lib.hid (HB1.out.trans (hb0.mono (by have := HS.out.1; omega)))
              have c0 := HW.out.c0
              have c1 := HW.out.c1
              have c2 := HW.out.c2
              have c3 := HW.out.c3
              obtain ⟨xa, xn, xc, rfl, hxl, _⟩ := HW.out.texts
              obtain ⟨ya, yn, yc, rfl, hyl, _⟩ := HW.out.nums
              have hxs : xn ≤ 900000 := by have := texts_room (s := x); have h3 := HR9.out; omega
              have hys : yn ≤ 900000 := by have h1 := xr_eq x; have h3 := HR9.out; omega
              have hsz : x.B.length ≤ 900000 := by have := xr_len x; have h3 := HR9.out; omega
              have HXL := Lib.hid hxl; have HYL := Lib.hid hyl
              clear hb0 hxl hyl
              cases hb : x.bad with
              | true =>
                rw [hb] at c3
                have HRN := Lib.hid (show R = none from by
                  rcases HEN.out with ⟨_, e⟩ | ⟨e, _⟩
                  · exact e
                  · rw [hb] at e; cases e)
                clear hb
                go_upto_region 11 with (fail)
                go_quiet (fail)
                go_wp2_with fail
                rw [HRN.out]
                simp [bodyPost, results, Tryz.results41, go_sem, g1, g2, encV, encE]
                exact ((below_drewN HBB.out _).setCell (by show w.heap.size ≤ w.heap.size + 1; omega) _).setCell (by show w.heap.size ≤ w.heap.size + 1; omega) _
              | false =>
                rw [hb] at c3
                have HRN := Lib.hid (show R = if x.T = [] ∧ x.N = [] then some x.B else none from by
                  rcases HEN.out with ⟨e, _⟩ | ⟨_, e⟩
                  · rw [hb] at e; cases e
                  · exact e)
                clear hb
                by_cases hz : xn + yn = 0
                · obtain rfl : xn = 0 := by omega
                  obtain rfl : yn = 0 := by omega
                  have HR0 := Lib.hid (show R = some x.B by rw [HRN.out, if_pos ⟨List.length_eq_zero_iff.1 HXL.out, List.length_eq_zero_iff.1 HYL.out⟩])
                  clear hz
                  by_cases hlong : 10000 < x.B.length
                  · have hl' : (10000 : Int) < x.B.length := by omega
                    go_upto_region 11 with (fail)
                    go_quiet (fail)
                    go_wp2_with fail
                    rw [HR0.out]
                    simp [bodyPost, results, Tryz.results41, go_sem, g1, g2, encV, encE, hlong]
                    exact ((below_drewN HBB.out _).setCell (by show w.heap.size ≤ w.heap.size + 1; omega) _).setCell (by show w.heap.size ≤ w.heap.size + 1; omega) _
                  · have hl' : ¬ (10000 : Int) < x.B.length := by omega
                    go_upto_region 11 with (fail)
                    go_quiet (fail)
                    go_upto_region 15 with (fail)
                    go_region
                    all_goals
                      go_wp2_with fail
                      rw [HR0.out]
                      simp [bodyPost, results, Tryz.results41, go_sem, g1, g2, encV, encE, hlong, HCI.out]
                      exact ((below_drewN HBB.out _).setCell (by show w.heap.size ≤ w.heap.size + 1; omega) _).setCell (by show w.heap.size ≤ w.heap.size + 1; omega) _
                · have hz1 : (0 : Int) < (xn : Int) + yn := by omega
                  have HR0 := Lib.hid (show R = none by
                    rw [HRN.out, if_neg]
                    rintro ⟨h1, h2⟩
                    have := HXL.out; have := HYL.out
                    rw [h1] at *; rw [h2] at *
                    simp at *
                    omega)
                  clear hz
                  go_upto_region 11 with (fail)
                  go_quiet (fail)
                  go_wp2_with fail
                  rw [HR0.out]
                  simp [bodyPost, results, Tryz.results41, go_sem, g1, g2, encV, encE]
                  exact ((below_drewN HBB.out _).setCell (by show w.heap.size ≤ w.heap.size + 1; omega) _).setCell (by show w.heap.size ≤ w.heap.size + 1; omega) _
            | false =>
              have hr0 := hrm.1 hb
              have hlj : l[j]? = some L[j] := by rw [← HLL.out]; exact List.getElem?_eq_getElem (by rw [blen]; exact hlt)
              have HNX := Lib.hid (all_next HK.out hlj hb)
              have HLJ := Lib.hid (HLET.out L[j] (List.mem_of_getElem? hlj))
              have HRM := Lib.hid (show ((xField L[j] x).bad = false → xr (xField L[j] x) ≤ 800000) ∧ xr (xField L[j] x) ≤ 800021 from
                ⟨fun h => Nat.le_trans ((step_field _).good x h) hr0, Nat.le_trans ((step_field _).room x) (by omega)⟩)
              rw [hb] at c3
              clear hrm hb hr0 hlj
              go_wp2_with fail
              refine (rfield_any w1 wr x L[j] HLJ.out HR9.out ⟨_, _, HW.out⟩).mono ?_; rintro e w6 ⟨rfl, hI⟩
              have HI6 := Lib.hid hI
              clear hI
              go_wp2_with fail
              go_roundw
              case measure => first | omega | (simp [RowKit.intOf]; omega)
              case rel => exact ⟨j + 1, _, by omega, by go_num, HNX.out, HRM.out, HI6.out⟩
          · have hjz : j = L.size := by omega
            have HX := Lib.hid (show xAll l ⟨T, N, [], false⟩ = x by
              have := HK.out
              rw [hjz, ← blen, HLL.out, List.drop_length] at this
              exact this)
            have hge : ¬ (j : Int) < L.size := by omega
            clear hjz hrm
            go_wp2_with fail
            clear c3
            have HEN := Lib.hid (HENDS.out x HX.out)
            have hb0 := HW.out.below
            have g0 : wr.cell? ⟨w.heap.size, 0, none⟩ = some (.int .u8 ci) := (hb0.cell (p := ⟨w.heap.size, 0, none⟩) (by exact HS.out.1)).trans G.out.1
            have g1 : wr.cell? ⟨w.heap.size + 1, 0, none⟩ = some (.int .u8 0) := (hb0.cell (p := ⟨w.heap.size + 1, 0, none⟩) (by exact HS.out.2)).trans G.out.2.1
            have g2 : wr.cell? ⟨w.heap.size + 1, 1, none⟩ = some (.string { data := #[] }) := (hb0.cell (p := ⟨w.heap.size + 1, 1, none⟩) (by exact HS.out.2)).trans G.out.2.2.1
            have g3 : wr.frozen? ⟨w.heap.size + 1, 0, none⟩ = false := (hb0.frozen (p := ⟨w.heap.size + 1, 0, none⟩) (by exact HS.out.2)).trans G.out.2.2.2.1
            have g4 : wr.frozen? ⟨w.heap.size + 1, 1, none⟩ = false := (hb0.frozen (p := ⟨w.heap.size + 1, 1, none⟩) (by exact HS.out.2)).trans G.out.2.2.2.2
            have HBB := Lib.hid (HB1.out.trans (hb0.mono (by have := HS.out.1; omega)))
            have c0 := HW.out.c0
            have c1 := HW.out.c1
            have c2 := HW.out.c2
            have c3 := HW.out.c3
            obtain ⟨xa, xn, xc, rfl, hxl, _⟩ := HW.out.texts
            obtain ⟨ya, yn, yc, rfl, hyl, _⟩ := HW.out.nums
            have hxs : xn ≤ 900000 := by have := texts_room (s := x); have h3 := HR9.out; omega
            have hys : yn ≤ 900000 := by have h1 := xr_eq x; have h3 := HR9.out; omega
            have hsz : x.B.length ≤ 900000 := by have := xr_len x; have h3 := HR9.out; omega
            have HXL := Lib.hid hxl; have HYL := Lib.hid hyl
            clear hb0 hxl hyl
            cases hb : x.bad with
            | true =>
              rw [hb] at c3
              have HRN := Lib.hid (show R = none from by
                rcases HEN.out with ⟨_, e⟩ | ⟨e, _⟩
                · exact e
                · rw [hb] at e; cases e)
              clear hb
              go_upto_region 11 with (fail)
              go_quiet (fail)
              go_wp2_with fail
              rw [HRN.out]
              simp [bodyPost, results, Tryz.results41, go_sem, g1, g2, encV, encE]
              exact ((below_drewN HBB.out _).setCell (by show w.heap.size ≤ w.heap.size + 1; omega) _).setCell (by show w.heap.size ≤ w.heap.size + 1; omega) _
            | false =>
              rw [hb] at c3
              have HRN := Lib.hid (show R = if x.T = [] ∧ x.N = [] then some x.B else none from by
                rcases HEN.out with ⟨e, _⟩ | ⟨_, e⟩
                · rw [hb] at e; cases e
                · exact e)
              clear hb
              by_cases hz : xn + yn = 0
              · obtain rfl : xn = 0 := by omega
                obtain rfl : yn = 0 := by omega
                have HR0 := Lib.hid (show R = some x.B by rw [HRN.out, if_pos ⟨List.length_eq_zero_iff.1 HXL.out, List.length_eq_zero_iff.1 HYL.out⟩])
                clear hz
                by_cases hlong : 10000 < x.B.length
                · have hl' : (10000 : Int) < x.B.length := by omega
                  go_upto_region 11 with (fail)
                  go_quiet (fail)
                  go_wp2_with fail
                  rw [HR0.out]
                  simp [bodyPost, results, Tryz.results41, go_sem, g1, g2, encV, encE, hlong]
                  exact ((below_drewN HBB.out _).setCell (by show w.heap.size ≤ w.heap.size + 1; omega) _).setCell (by show w.heap.size ≤ w.heap.size + 1; omega) _
                · have hl' : ¬ (10000 : Int) < x.B.length := by omega
                  go_upto_region 11 with (fail)
                  go_quiet (fail)
                  go_upto_region 15 with (fail)
                  go_region
                  all_goals
                    go_wp2_with fail
                    rw [HR0.out]
                    simp [bodyPost, results, Tryz.results41, go_sem, g1, g2, encV, encE, hlong, HCI.out]
                    exact ((below_drewN HBB.out _).setCell (by show w.heap.size ≤ w.heap.size + 1; omega) _).setCell (by show w.heap.size ≤ w.heap.size + 1; omega) _
              · have hz1 : (0 : Int) < (xn : Int) + yn := by omega
                have HR0 := Lib.hid (show R = none by
                  rw [HRN.out, if_neg]
                  rintro ⟨h1, h2⟩
                  have := HXL.out; have := HYL.out
                  rw [h1] at *; rw [h2] at *
                  simp at *
                  omega)
                clear hz
                go_upto_region 11 with (fail)
                go_quiet (fail)
                go_wp2_with fail
                rw [HR0.out]
                simp [bodyPost, results, Tryz.results41, go_sem, g1, g2, encV, encE]
                exact ((below_drewN HBB.out _).setCell (by show w.heap.size ≤ w.heap.size + 1; omega) _).setCell (by show w.heap.size ≤ w.heap.size + 1; omega) _
      | false =>
        by_cases hc : c = 0
        · have hcb : (ci == 0) = true := by rw [HCI.out, hc]; rfl
          cases N with
          | nil =>
            obtain rfl : 0 = nn := HNL.out
            clear hcan hc
            go_enter Tryz.func41, Tryz.ntmps41
            go_wp2_with fail
            rw [← HE.out]
            refine HLY.out.mono ?_; rintro e w1 ⟨rfl, hb1⟩
            have HB1 := Lib.hid (HB.out.trans (hb1.mono (by rw [HSZ.out]; omega)))
            have k : ∀ q i, q < W0.heap.size → w1.cell? ⟨q, i, none⟩ = W0.cell? ⟨q, i, none⟩ := fun q i h => hb1.cell (p := ⟨q, i, none⟩) h
            have kf : ∀ q i, q < W0.heap.size → w1.frozen? ⟨q, i, none⟩ = W0.frozen? ⟨q, i, none⟩ := fun q i h => hb1.frozen (p := ⟨q, i, none⟩) h
            have HS := Lib.hid (show w.heap.size < w1.heap.size ∧ w.heap.size + 1 < w1.heap.size by have := hb1.size; have := HSZ.out; omega)
            have hq0 : w.heap.size < W0.heap.size := by rw [HSZ.out]; omega
            have hq1 : w.heap.size + 1 < W0.heap.size := by rw [HSZ.out]; omega
            have k0 := (k _ 0 hq0).trans HK.out.1.1
            have k1 := (k _ 1 hq0).trans HK.out.1.2.1
            have k2 := (k _ 2 hq0).trans HK.out.1.2.2
            have g1 := (k _ 0 hq1).trans HK.out.2.1
            have g2 := (k _ 1 hq1).trans HK.out.2.2.1
            have g3 := (kf _ 0 hq1).trans HK.out.2.2.2.1
            have g4 := (kf _ 1 hq1).trans HK.out.2.2.2.2
            have G := Lib.hid (And.intro k0 (And.intro g1 (And.intro g2 (And.intro g3 g4))))
            have HT := Lib.hid (HT0.out.mono HB1.out |>.mono (Below.refl _ _))
            have HN := Lib.hid (HN0.out.mono HB1.out |>.mono (Below.refl _ _))
            clear hb1 k kf hq0 hq1
            unfold layV
            go_upto_region 7 with (fail)
            go_wp2_with fail
            obtain ⟨N, hNN⟩ : ∃ N : List Int, N = [] := ⟨_, rfl⟩
            rw [← hNN] at HN HROOM HENDS
            clear hNN
            obtain ⟨L, hL⟩ : ∃ L : ByteArray, L = ⟨l.toArray⟩ := ⟨_, rfl⟩
            have HLL := Lib.hid (show bytes L = l by rw [hL])
            have hl5 : L.size ≤ 5 := by rw [← blen, HLL.out]; exact HL5.out
            rw [← hL]
            clear hL
            go_loopw [9, 9] (fun i _ wr => ∃ (j : Nat) (x : XS), j ≤ L.size ∧ i = .int .i64 j ∧ xAll l ⟨T, N, [], false⟩ = xAll (l.drop j) x ∧ ((x.bad = false → xr x ≤ 800000) ∧ xr x ≤ 800021) ∧ IsR w1 wr x) (fun i _ _ => L.size - (RowKit.intOf i).toNat)
            case atStart => exact ⟨0, _, Nat.zero_le _, rfl, rfl, ⟨fun _ => HROOM.out, Nat.le_trans HROOM.out (by decide)⟩, isr_new HT.out HN.out (Below.refl _ _)⟩
            case round =>
              obtain ⟨j, x, hj, rfl, hk, hrm, tv', nv', hW⟩ := hrel
              have HK := Lib.hid hk
              have c3 := hW.c3
              have HW := Lib.hid hW
              have HR9 := Lib.hid (Nat.le_trans hrm.2 (show 800021 ≤ 850000 by decide))
              clear hk hW
              by_cases hlt : j < L.size
              · have hlt' : (j : Int) < L.size := by omega
                cases hb : x.bad with
                | true =>
                  have HX := Lib.hid (all_bad HK.out hb)
                  rw [hb] at c3
                  clear hrm hb
                  go_wp2_with fail
                  clear c3
                  have HEN := Lib.hid (HENDS.out x HX.out)
                  have hb0 := HW.out.below
                  have g0 : wr.cell? ⟨w.heap.size, 0, none⟩ = some (.int .u8 ci) := (hb0.cell (p := ⟨w.heap.size, 0, none⟩) (by exact HS.out.1)).trans G.out.1
                  have g1 : wr.cell? ⟨w.heap.size + 1, 0, none⟩ = some (.int .u8 0) := (hb0.cell (p := ⟨w.heap.size + 1, 0, none⟩) (by exact HS.out.2)).trans G.out.2.1
                  have g2 : wr.cell? ⟨w.heap.size + 1, 1, none⟩ = some (.string { data := #[] }) := (hb0.cell (p := ⟨w.heap.size + 1, 1, none⟩) (by exact HS.out.2)).trans G.out.2.2.1
                  have g3 : wr.frozen? ⟨w.heap.size + 1, 0, none⟩ = false := (hb0.frozen (p := ⟨w.heap.size + 1, 0, none⟩) (by exact HS.out.2)).trans G.out.2.2.2.1
                  have g4 : wr.frozen? ⟨w.heap.size + 1, 1, none⟩ = false := (hb0.frozen (p := ⟨w.heap.size + 1, 1, none⟩) (by exact HS.out.2)).trans G.out.2.2.2.2
                  have HBB := Lib.hid (HB1.out.trans (hb0.mono (by have := HS.out.1; omega)))
                  have c0 := HW.out.c0
                  have c1 := HW.out.c1
                  have c2 := HW.out.c2
                  have c3 := HW.out.c3
                  obtain ⟨xa, xn, xc, rfl, hxl, _⟩ := HW.out.texts
                  obtain ⟨ya, yn, yc, rfl, hyl, _⟩ := HW.out.nums
                  have hxs : xn ≤ 900000 := by have := texts_room (s := x); have h3 := HR9.out; omega
                  have hys : yn ≤ 900000 := by have h1 := xr_eq x; have h3 := HR9.out; omega
                  have hsz : x.B.length ≤ 900000 := by have := xr_len x; have h3 := HR9.out; omega
                  have HXL := Lib.hid hxl; have HYL := Lib.hid hyl
                  clear hb0 hxl hyl
                  cases hb : x.bad with
                  | true =>
                    rw [hb] at c3
                    have HRN := Lib.hid (show R = none from by
                      rcases HEN.out with ⟨_, e⟩ | ⟨e, _⟩
                      · exact e
                      · rw [hb] at e; cases e)
                    clear hb
                    go_upto_region 11 with (fail)
                    go_quiet (fail)
                    go_wp2_with fail
                    rw [HRN.out]
                    simp [bodyPost, results, Tryz.results41, go_sem, g1, g2, encV, encE]
                    exact ((below_drewN HBB.out _).setCell (by show w.heap.size ≤ w.heap.size + 1; omega) _).setCell (by show w.heap.size ≤ w.heap.size + 1; omega) _
                  | false =>
                    rw [hb] at c3
                    have HRN := Lib.hid (show R = if x.T = [] ∧ x.N = [] then some x.B else none from by
                      rcases HEN.out with ⟨e, _⟩ | ⟨_, e⟩
                      · rw [hb] at e; cases e
                      · exact e)
                    clear hb
                    by_cases hz : xn + yn = 0
                    · obtain rfl : xn = 0 := by omega
                      obtain rfl : yn = 0 := by omega
                      have HR0 := Lib.hid (show R = some x.B by rw [HRN.out, if_pos ⟨List.length_eq_zero_iff.1 HXL.out, List.length_eq_zero_iff.1 HYL.out⟩])
                      clear hz
                      by_cases hlong : 10000 < x.B.length
                      · have hl' : (10000 : Int) < x.B.length := by omega
                        go_upto_region 11 with (fail)
                        go_quiet (fail)
                        go_wp2_with fail
                        rw [HR0.out]
                        simp [bodyPost, results, Tryz.results41, go_sem, g1, g2, encV, encE, hlong]
                        exact ((below_drewN HBB.out _).setCell (by show w.heap.size ≤ w.heap.size + 1; omega) _).setCell (by show w.heap.size ≤ w.heap.size + 1; omega) _
                      · have hl' : ¬ (10000 : Int) < x.B.length := by omega
                        go_upto_region 11 with (fail)
                        go_quiet (fail)
                        go_upto_region 15 with (fail)
                        go_region
                        all_goals
                          go_wp2_with fail
                          rw [HR0.out]
                          simp [bodyPost, results, Tryz.results41, go_sem, g1, g2, encV, encE, hlong, HCI.out]
                          exact ((below_drewN HBB.out _).setCell (by show w.heap.size ≤ w.heap.size + 1; omega) _).setCell (by show w.heap.size ≤ w.heap.size + 1; omega) _
                    · have hz1 : (0 : Int) < (xn : Int) + yn := by omega
                      have HR0 := Lib.hid (show R = none by
                        rw [HRN.out, if_neg]
                        rintro ⟨h1, h2⟩
                        have := HXL.out; have := HYL.out
                        rw [h1] at *; rw [h2] at *
                        simp at *
                        omega)
                      clear hz
                      go_upto_region 11 with (fail)
                      go_quiet (fail)
                      go_wp2_with fail
                      rw [HR0.out]
                      simp [bodyPost, results, Tryz.results41, go_sem, g1, g2, encV, encE]
                      exact ((below_drewN HBB.out _).setCell (by show w.heap.size ≤ w.heap.size + 1; omega) _).setCell (by show w.heap.size ≤ w.heap.size + 1; omega) _
                | false =>
                  have hr0 := hrm.1 hb
                  have hlj : l[j]? = some L[j] := by rw [← HLL.out]; exact List.getElem?_eq_getElem (by rw [blen]; exact hlt)
                  have HNX := Lib.hid (all_next HK.out hlj hb)
                  have HLJ := Lib.hid (HLET.out L[j] (List.mem_of_getElem? hlj))
                  have HRM := Lib.hid (show ((xField L[j] x).bad = false → xr (xField L[j] x) ≤ 800000) ∧ xr (xField L[j] x) ≤ 800021 from
                    ⟨fun h => Nat.le_trans ((step_field _).good x h) hr0, Nat.le_trans ((step_field _).room x) (by omega)⟩)
                  rw [hb] at c3
                  clear hrm hb hr0 hlj
                  go_wp2_with fail
                  refine (rfield_any w1 wr x L[j] HLJ.out HR9.out ⟨_, _, HW.out⟩).mono ?_; rintro e w6 ⟨rfl, hI⟩
                  have HI6 := Lib.hid hI
                  clear hI
                  go_wp2_with fail
                  go_roundw
                  case measure => first | omega | (simp [RowKit.intOf]; omega)
                  case rel => exact ⟨j + 1, _, by omega, by go_num, HNX.out, HRM.out, HI6.out⟩
              · have hjz : j = L.size := by omega
                have HX := Lib.hid (show xAll l ⟨T, N, [], false⟩ = x by
                  have := HK.out
                  rw [hjz, ← blen, HLL.out, List.drop_length] at this
                  exact this)
                have hge : ¬ (j : Int) < L.size := by omega
                clear hjz hrm
                go_wp2_with fail
                clear c3
                have HEN := Lib.hid (HENDS.out x HX.out)
                have hb0 := HW.out.below
                have g0 : wr.cell? ⟨w.heap.size, 0, none⟩ = some (.int .u8 ci) := (hb0.cell (p := ⟨w.heap.size, 0, none⟩) (by exact HS.out.1)).trans G.out.1
                have g1 : wr.cell? ⟨w.heap.size + 1, 0, none⟩ = some (.int .u8 0) := (hb0.cell (p := ⟨w.heap.size + 1, 0, none⟩) (by exact HS.out.2)).trans G.out.2.1
                have g2 : wr.cell? ⟨w.heap.size + 1, 1, none⟩ = some (.string { data := #[] }) := (hb0.cell (p := ⟨w.heap.size + 1, 1, none⟩) (by exact HS.out.2)).trans G.out.2.2.1
                have g3 : wr.frozen? ⟨w.heap.size + 1, 0, none⟩ = false := (hb0.frozen (p := ⟨w.heap.size + 1, 0, none⟩) (by exact HS.out.2)).trans G.out.2.2.2.1
                have g4 : wr.frozen? ⟨w.heap.size + 1, 1, none⟩ = false := (hb0.frozen (p := ⟨w.heap.size + 1, 1, none⟩) (by exact HS.out.2)).trans G.out.2.2.2.2
                have HBB := Lib.hid (HB1.out.trans (hb0.mono (by have := HS.out.1; omega)))
                have c0 := HW.out.c0
                have c1 := HW.out.c1
                have c2 := HW.out.c2
                have c3 := HW.out.c3
                obtain ⟨xa, xn, xc, rfl, hxl, _⟩ := HW.out.texts
                obtain ⟨ya, yn, yc, rfl, hyl, _⟩ := HW.out.nums
                have hxs : xn ≤ 900000 := by have := texts_room (s := x); have h3 := HR9.out; omega
                have hys : yn ≤ 900000 := by have h1 := xr_eq x; have h3 := HR9.out; omega
                have hsz : x.B.length ≤ 900000 := by have := xr_len x; have h3 := HR9.out; omega
                have HXL := Lib.hid hxl; have HYL := Lib.hid hyl
                clear hb0 hxl hyl
                cases hb : x.bad with
                | true =>
                  rw [hb] at c3
                  have HRN := Lib.hid (show R = none from by
                    rcases HEN.out with ⟨_, e⟩ | ⟨e, _⟩
                    · exact e
                    · rw [hb] at e; cases e)
                  clear hb
                  go_upto_region 11 with (fail)
                  go_quiet (fail)
                  go_wp2_with fail
                  rw [HRN.out]
                  simp [bodyPost, results, Tryz.results41, go_sem, g1, g2, encV, encE]
                  exact ((below_drewN HBB.out _).setCell (by show w.heap.size ≤ w.heap.size + 1; omega) _).setCell (by show w.heap.size ≤ w.heap.size + 1; omega) _
                | false =>
                  rw [hb] at c3
                  have HRN := Lib.hid (show R = if x.T = [] ∧ x.N = [] then some x.B else none from by
                    rcases HEN.out with ⟨e, _⟩ | ⟨_, e⟩
                    · rw [hb] at e; cases e
                    · exact e)
                  clear hb
                  by_cases hz : xn + yn = 0
                  · obtain rfl : xn = 0 := by omega
                    obtain rfl : yn = 0 := by omega
                    have HR0 := Lib.hid (show R = some x.B by rw [HRN.out, if_pos ⟨List.length_eq_zero_iff.1 HXL.out, List.length_eq_zero_iff.1 HYL.out⟩])
                    clear hz
                    by_cases hlong : 10000 < x.B.length
                    · have hl' : (10000 : Int) < x.B.length := by omega
                      go_upto_region 11 with (fail)
                      go_quiet (fail)
                      go_wp2_with fail
                      rw [HR0.out]
                      simp [bodyPost, results, Tryz.results41, go_sem, g1, g2, encV, encE, hlong]
                      exact ((below_drewN HBB.out _).setCell (by show w.heap.size ≤ w.heap.size + 1; omega) _).setCell (by show w.heap.size ≤ w.heap.size + 1; omega) _
                    · have hl' : ¬ (10000 : Int) < x.B.length := by omega
                      go_upto_region 11 with (fail)
                      go_quiet (fail)
                      go_upto_region 15 with (fail)
                      go_region
                      all_goals
                        go_wp2_with fail
                        rw [HR0.out]
                        simp [bodyPost, results, Tryz.results41, go_sem, g1, g2, encV, encE, hlong, HCI.out]
                        exact ((below_drewN HBB.out _).setCell (by show w.heap.size ≤ w.heap.size + 1; omega) _).setCell (by show w.heap.size ≤ w.heap.size + 1; omega) _
                  · have hz1 : (0 : Int) < (xn : Int) + yn := by omega
                    have HR0 := Lib.hid (show R = none by
                      rw [HRN.out, if_neg]
                      rintro ⟨h1, h2⟩
                      have := HXL.out; have := HYL.out
                      rw [h1] at *; rw [h2] at *
                      simp at *
                      omega)
                    clear hz
                    go_upto_region 11 with (fail)
                    go_quiet (fail)
                    go_wp2_with fail
                    rw [HR0.out]
                    simp [bodyPost, results, Tryz.results41, go_sem, g1, g2, encV, encE]
                    exact ((below_drewN HBB.out _).setCell (by show w.heap.size ≤ w.heap.size + 1; omega) _).setCell (by show w.heap.size ≤ w.heap.size + 1; omega) _
          | cons a ns =>
            have hne : (a == 80877102) = false := by
              rw [beq_eq_false_iff_ne]; intro e; exact hcan ⟨rfl, hc, by rw [e]; rfl⟩
            obtain ⟨gn, on, rfl, hgn, hcn⟩ := HNC.out.resolve_left (by intro h; cases h)
            have dn := hcn 0 _ rfl
            rw [Nat.add_zero] at dn
            have DN := Lib.hid dn
            have hnn : 0 < nn := by rw [← HNL.out]; exact Nat.succ_pos _
            have hnn' : (0 : Int) < nn := by omega
            clear hcan hcn dn hc
            go_enter Tryz.func41, Tryz.ntmps41
            go_wp2_with fail
            rw [← HE.out]
            refine HLY.out.mono ?_; rintro e w1 ⟨rfl, hb1⟩
            have HB1 := Lib.hid (HB.out.trans (hb1.mono (by rw [HSZ.out]; omega)))
            have k : ∀ q i, q < W0.heap.size → w1.cell? ⟨q, i, none⟩ = W0.cell? ⟨q, i, none⟩ := fun q i h => hb1.cell (p := ⟨q, i, none⟩) h
            have kf : ∀ q i, q < W0.heap.size → w1.frozen? ⟨q, i, none⟩ = W0.frozen? ⟨q, i, none⟩ := fun q i h => hb1.frozen (p := ⟨q, i, none⟩) h
            have HS := Lib.hid (show w.heap.size < w1.heap.size ∧ w.heap.size + 1 < w1.heap.size by have := hb1.size; have := HSZ.out; omega)
            have hq0 : w.heap.size < W0.heap.size := by rw [HSZ.out]; omega
            have hq1 : w.heap.size + 1 < W0.heap.size := by rw [HSZ.out]; omega
            have k0 := (k _ 0 hq0).trans HK.out.1.1
            have k1 := (k _ 1 hq0).trans HK.out.1.2.1
            have k2 := (k _ 2 hq0).trans HK.out.1.2.2
            have g1 := (k _ 0 hq1).trans HK.out.2.1
            have g2 := (k _ 1 hq1).trans HK.out.2.2.1
            have g3 := (kf _ 0 hq1).trans HK.out.2.2.2.1
            have g4 := (kf _ 1 hq1).trans HK.out.2.2.2.2
            have G := Lib.hid (And.intro k0 (And.intro g1 (And.intro g2 (And.intro g3 g4))))
            have HT := Lib.hid (HT0.out.mono HB1.out |>.mono (Below.refl _ _))
            have HN := Lib.hid (HN0.out.mono HB1.out |>.mono (Below.refl _ _))
            clear hb1 k kf hq0 hq1
            unfold layV
            have d0 := (HB1.out.cell (p := ⟨gn, on, none⟩) hgn).trans DN.out
            go_upto_region 7 with (fail)
            go_wp2_with fail
            clear d0
            obtain ⟨N, hNN⟩ : ∃ N, N = a :: ns := ⟨_, rfl⟩
            rw [← hNN] at HN HROOM HENDS
            clear hNN
            obtain ⟨L, hL⟩ : ∃ L : ByteArray, L = ⟨l.toArray⟩ := ⟨_, rfl⟩
            have HLL := Lib.hid (show bytes L = l by rw [hL])
            have hl5 : L.size ≤ 5 := by rw [← blen, HLL.out]; exact HL5.out
            rw [← hL]
            clear hL
            go_loopw [9, 9] (fun i _ wr => ∃ (j : Nat) (x : XS), j ≤ L.size ∧ i = .int .i64 j ∧ xAll l ⟨T, N, [], false⟩ = xAll (l.drop j) x ∧ ((x.bad = false → xr x ≤ 800000) ∧ xr x ≤ 800021) ∧ IsR w1 wr x) (fun i _ _ => L.size - (RowKit.intOf i).toNat)
            case atStart => exact ⟨0, _, Nat.zero_le _, rfl, rfl, ⟨fun _ => HROOM.out, Nat.le_trans HROOM.out (by decide)⟩, isr_new HT.out HN.out (Below.refl _ _)⟩
            case round =>
              obtain ⟨j, x, hj, rfl, hk, hrm, tv', nv', hW⟩ := hrel
              have HK := Lib.hid hk
              have c3 := hW.c3
              have HW := Lib.hid hW
              have HR9 := Lib.hid (Nat.le_trans hrm.2 (show 800021 ≤ 850000 by decide))
              clear hk hW
              by_cases hlt : j < L.size
              · have hlt' : (j : Int) < L.size := by omega
                cases hb : x.bad with
                | true =>
                  have HX := Lib.hid (all_bad HK.out hb)
                  rw [hb] at c3
                  clear hrm hb
                  go_wp2_with fail
                  clear c3
                  have HEN := Lib.hid (HENDS.out x HX.out)
                  have hb0 := HW.out.below
                  have g0 : wr.cell? ⟨w.heap.size, 0, none⟩ = some (.int .u8 ci) := (hb0.cell (p := ⟨w.heap.size, 0, none⟩) (by exact HS.out.1)).trans G.out.1
                  have g1 : wr.cell? ⟨w.heap.size + 1, 0, none⟩ = some (.int .u8 0) := (hb0.cell (p := ⟨w.heap.size + 1, 0, none⟩) (by exact HS.out.2)).trans G.out.2.1
                  have g2 : wr.cell? ⟨w.heap.size + 1, 1, none⟩ = some (.string { data := #[] }) := (hb0.cell (p := ⟨w.heap.size + 1, 1, none⟩) (by exact HS.out.2)).trans G.out.2.2.1
                  have g3 : wr.frozen? ⟨w.heap.size + 1, 0, none⟩ = false := (hb0.frozen (p := ⟨w.heap.size + 1, 0, none⟩) (by exact HS.out.2)).trans G.out.2.2.2.1
                  have g4 : wr.frozen? ⟨w.heap.size + 1, 1, none⟩ = false := (hb0.frozen (p := ⟨w.heap.size + 1, 1, none⟩) (by exact HS.out.2)).trans G.out.2.2.2.2
                  have HBB := Lib.hid (HB1.out.trans (hb0.mono (by have := HS.out.1; omega)))
                  have c0 := HW.out.c0
                  have c1 := HW.out.c1
                  have c2 := HW.out.c2
                  have c3 := HW.out.c3
                  obtain ⟨xa, xn, xc, rfl, hxl, _⟩ := HW.out.texts
                  obtain ⟨ya, yn, yc, rfl, hyl, _⟩ := HW.out.nums
                  have hxs : xn ≤ 900000 := by have := texts_room (s := x); have h3 := HR9.out; omega
                  have hys : yn ≤ 900000 := by have h1 := xr_eq x; have h3 := HR9.out; omega
                  have hsz : x.B.length ≤ 900000 := by have := xr_len x; have h3 := HR9.out; omega
                  have HXL := Lib.hid hxl; have HYL := Lib.hid hyl
                  clear hb0 hxl hyl
                  cases hb : x.bad with
                  | true =>
                    rw [hb] at c3
                    have HRN := Lib.hid (show R = none from by
                      rcases HEN.out with ⟨_, e⟩ | ⟨e, _⟩
                      · exact e
                      · rw [hb] at e; cases e)
                    clear hb
                    go_upto_region 11 with (fail)
                    go_quiet (fail)
                    go_wp2_with fail
                    rw [HRN.out]
                    simp [bodyPost, results, Tryz.results41, go_sem, g1, g2, encV, encE]
                    exact ((below_drewN HBB.out _).setCell (by show w.heap.size ≤ w.heap.size + 1; omega) _).setCell (by show w.heap.size ≤ w.heap.size + 1; omega) _
                  | false =>
                    rw [hb] at c3
                    have HRN := Lib.hid (show R = if x.T = [] ∧ x.N = [] then some x.B else none from by
                      rcases HEN.out with ⟨e, _⟩ | ⟨_, e⟩
                      · rw [hb] at e; cases e
                      · exact e)
                    clear hb
                    by_cases hz : xn + yn = 0
                    · obtain rfl : xn = 0 := by omega
                      obtain rfl : yn = 0 := by omega
                      have HR0 := Lib.hid (show R = some x.B by rw [HRN.out, if_pos ⟨List.length_eq_zero_iff.1 HXL.out, List.length_eq_zero_iff.1 HYL.out⟩])
                      clear hz
                      by_cases hlong : 10000 < x.B.length
                      · have hl' : (10000 : Int) < x.B.length := by omega
                        go_upto_region 11 with (fail)
                        go_quiet (fail)
                        go_wp2_with fail
                        rw [HR0.out]
                        simp [bodyPost, results, Tryz.results41, go_sem, g1, g2, encV, encE, hlong]
                        exact ((below_drewN HBB.out _).setCell (by show w.heap.size ≤ w.heap.size + 1; omega) _).setCell (by show w.heap.size ≤ w.heap.size + 1; omega) _
                      · have hl' : ¬ (10000 : Int) < x.B.length := by omega
                        go_upto_region 11 with (fail)
                        go_quiet (fail)
                        go_upto_region 15 with (fail)
                        go_region
                        all_goals
                          go_wp2_with fail
                          rw [HR0.out]
                          simp [bodyPost, results, Tryz.results41, go_sem, g1, g2, encV, encE, hlong, HCI.out]
                          exact ((below_drewN HBB.out _).setCell (by show w.heap.size ≤ w.heap.size + 1; omega) _).setCell (by show w.heap.size ≤ w.heap.size + 1; omega) _
                    · have hz1 : (0 : Int) < (xn : Int) + yn := by omega
                      have HR0 := Lib.hid (show R = none by
                        rw [HRN.out, if_neg]
                        rintro ⟨h1, h2⟩
                        have := HXL.out; have := HYL.out
                        rw [h1] at *; rw [h2] at *
                        simp at *
                        omega)
                      clear hz
                      go_upto_region 11 with (fail)
                      go_quiet (fail)
                      go_wp2_with fail
                      rw [HR0.out]
                      simp [bodyPost, results, Tryz.results41, go_sem, g1, g2, encV, encE]
                      exact ((below_drewN HBB.out _).setCell (by show w.heap.size ≤ w.heap.size + 1; omega) _).setCell (by show w.heap.size ≤ w.heap.size + 1; omega) _
                | false =>
                  have hr0 := hrm.1 hb
                  have hlj : l[j]? = some L[j] := by rw [← HLL.out]; exact List.getElem?_eq_getElem (by rw [blen]; exact hlt)
                  have HNX := Lib.hid (all_next HK.out hlj hb)
                  have HLJ := Lib.hid (HLET.out L[j] (List.mem_of_getElem? hlj))
                  have HRM := Lib.hid (show ((xField L[j] x).bad = false → xr (xField L[j] x) ≤ 800000) ∧ xr (xField L[j] x) ≤ 800021 from
                    ⟨fun h => Nat.le_trans ((step_field _).good x h) hr0, Nat.le_trans ((step_field _).room x) (by omega)⟩)
                  rw [hb] at c3
                  clear hrm hb hr0 hlj
                  go_wp2_with fail
                  refine (rfield_any w1 wr x L[j] HLJ.out HR9.out ⟨_, _, HW.out⟩).mono ?_; rintro e w6 ⟨rfl, hI⟩
                  have HI6 := Lib.hid hI
                  clear hI
                  go_wp2_with fail
                  go_roundw
                  case measure => first | omega | (simp [RowKit.intOf]; omega)
                  case rel => exact ⟨j + 1, _, by omega, by go_num, HNX.out, HRM.out, HI6.out⟩
              · have hjz : j = L.size := by omega
                have HX := Lib.hid (show xAll l ⟨T, N, [], false⟩ = x by
                  have := HK.out
                  rw [hjz, ← blen, HLL.out, List.drop_length] at this
                  exact this)
                have hge : ¬ (j : Int) < L.size := by omega
                clear hjz hrm
                go_wp2_with fail
                clear c3
                have HEN := Lib.hid (HENDS.out x HX.out)
                have hb0 := HW.out.below
                have g0 : wr.cell? ⟨w.heap.size, 0, none⟩ = some (.int .u8 ci) := (hb0.cell (p := ⟨w.heap.size, 0, none⟩) (by exact HS.out.1)).trans G.out.1
                have g1 : wr.cell? ⟨w.heap.size + 1, 0, none⟩ = some (.int .u8 0) := (hb0.cell (p := ⟨w.heap.size + 1, 0, none⟩) (by exact HS.out.2)).trans G.out.2.1
                have g2 : wr.cell? ⟨w.heap.size + 1, 1, none⟩ = some (.string { data := #[] }) := (hb0.cell (p := ⟨w.heap.size + 1, 1, none⟩) (by exact HS.out.2)).trans G.out.2.2.1
                have g3 : wr.frozen? ⟨w.heap.size + 1, 0, none⟩ = false := (hb0.frozen (p := ⟨w.heap.size + 1, 0, none⟩) (by exact HS.out.2)).trans G.out.2.2.2.1
                have g4 : wr.frozen? ⟨w.heap.size + 1, 1, none⟩ = false := (hb0.frozen (p := ⟨w.heap.size + 1, 1, none⟩) (by exact HS.out.2)).trans G.out.2.2.2.2
                have HBB := Lib.hid (HB1.out.trans (hb0.mono (by have := HS.out.1; omega)))
                have c0 := HW.out.c0
                have c1 := HW.out.c1
                have c2 := HW.out.c2
                have c3 := HW.out.c3
                obtain ⟨xa, xn, xc, rfl, hxl, _⟩ := HW.out.texts
                obtain ⟨ya, yn, yc, rfl, hyl, _⟩ := HW.out.nums
                have hxs : xn ≤ 900000 := by have := texts_room (s := x); have h3 := HR9.out; omega
                have hys : yn ≤ 900000 := by have h1 := xr_eq x; have h3 := HR9.out; omega
                have hsz : x.B.length ≤ 900000 := by have := xr_len x; have h3 := HR9.out; omega
                have HXL := Lib.hid hxl; have HYL := Lib.hid hyl
                clear hb0 hxl hyl
                cases hb : x.bad with
                | true =>
                  rw [hb] at c3
                  have HRN := Lib.hid (show R = none from by
                    rcases HEN.out with ⟨_, e⟩ | ⟨e, _⟩
                    · exact e
                    · rw [hb] at e; cases e)
                  clear hb
                  go_upto_region 11 with (fail)
                  go_quiet (fail)
                  go_wp2_with fail
                  rw [HRN.out]
                  simp [bodyPost, results, Tryz.results41, go_sem, g1, g2, encV, encE]
                  exact ((below_drewN HBB.out _).setCell (by show w.heap.size ≤ w.heap.size + 1; omega) _).setCell (by show w.heap.size ≤ w.heap.size + 1; omega) _
                | false =>
                  rw [hb] at c3
                  have HRN := Lib.hid (show R = if x.T = [] ∧ x.N = [] then some x.B else none from by
                    rcases HEN.out with ⟨e, _⟩ | ⟨_, e⟩
                    · rw [hb] at e; cases e
                    · exact e)
                  clear hb
                  by_cases hz : xn + yn = 0
                  · obtain rfl : xn = 0 := by omega
                    obtain rfl : yn = 0 := by omega
                    have HR0 := Lib.hid (show R = some x.B by rw [HRN.out, if_pos ⟨List.length_eq_zero_iff.1 HXL.out, List.length_eq_zero_iff.1 HYL.out⟩])
                    clear hz
                    by_cases hlong : 10000 < x.B.length
                    · have hl' : (10000 : Int) < x.B.length := by omega
                      go_upto_region 11 with (fail)
                      go_quiet (fail)
                      go_wp2_with fail
                      rw [HR0.out]
                      simp [bodyPost, results, Tryz.results41, go_sem, g1, g2, encV, encE, hlong]
                      exact ((below_drewN HBB.out _).setCell (by show w.heap.size ≤ w.heap.size + 1; omega) _).setCell (by show w.heap.size ≤ w.heap.size + 1; omega) _
                    · have hl' : ¬ (10000 : Int) < x.B.length := by omega
                      go_upto_region 11 with (fail)
                      go_quiet (fail)
                      go_upto_region 15 with (fail)
                      go_region
                      all_goals
                        go_wp2_with fail
                        rw [HR0.out]
                        simp [bodyPost, results, Tryz.results41, go_sem, g1, g2, encV, encE, hlong, HCI.out]
                        exact ((below_drewN HBB.out _).setCell (by show w.heap.size ≤ w.heap.size + 1; omega) _).setCell (by show w.heap.size ≤ w.heap.size + 1; omega) _
                  · have hz1 : (0 : Int) < (xn : Int) + yn := by omega
                    have HR0 := Lib.hid (show R = none by
                      rw [HRN.out, if_neg]
                      rintro ⟨h1, h2⟩
                      have := HXL.out; have := HYL.out
                      rw [h1] at *; rw [h2] at *
                      simp at *
                      omega)
                    clear hz
                    go_upto_region 11 with (fail)
                    go_quiet (fail)
                    go_wp2_with fail
                    rw [HR0.out]
                    simp [bodyPost, results, Tryz.results41, go_sem, g1, g2, encV, encE]
                    exact ((below_drewN HBB.out _).setCell (by show w.heap.size ≤ w.heap.size + 1; omega) _).setCell (by show w.heap.size ≤ w.heap.size + 1; omega) _
        · have hcb : (ci == 0) = false := by
            rw [HCI.out, beq_eq_false_iff_ne]; intro e
            exact hc (UInt8.toNat_inj.mp (by have : c.toNat = 0 := by omega
                                             exact this))
          clear hcan hc
          go_enter Tryz.func41, Tryz.ntmps41
          go_wp2_with fail
          rw [← HE.out]
          refine HLY.out.mono ?_; rintro e w1 ⟨rfl, hb1⟩
          have HB1 := Lib.hid (HB.out.trans (hb1.mono (by rw [HSZ.out]; omega)))
          have k : ∀ q i, q < W0.heap.size → w1.cell? ⟨q, i, none⟩ = W0.cell? ⟨q, i, none⟩ := fun q i h => hb1.cell (p := ⟨q, i, none⟩) h
          have kf : ∀ q i, q < W0.heap.size → w1.frozen? ⟨q, i, none⟩ = W0.frozen? ⟨q, i, none⟩ := fun q i h => hb1.frozen (p := ⟨q, i, none⟩) h
          have HS := Lib.hid (show w.heap.size < w1.heap.size ∧ w.heap.size + 1 < w1.heap.size by have := hb1.size; have := HSZ.out; omega)
          have hq0 : w.heap.size < W0.heap.size := by rw [HSZ.out]; omega
          have hq1 : w.heap.size + 1 < W0.heap.size := by rw [HSZ.out]; omega
          have k0 := (k _ 0 hq0).trans HK.out.1.1
          have k1 := (k _ 1 hq0).trans HK.out.1.2.1
          have k2 := (k _ 2 hq0).trans HK.out.1.2.2
          have g1 := (k _ 0 hq1).trans HK.out.2.1
          have g2 := (k _ 1 hq1).trans HK.out.2.2.1
          have g3 := (kf _ 0 hq1).trans HK.out.2.2.2.1
          have g4 := (kf _ 1 hq1).trans HK.out.2.2.2.2
          have G := Lib.hid (And.intro k0 (And.intro g1 (And.intro g2 (And.intro g3 g4))))
          have HT := Lib.hid (HT0.out.mono HB1.out |>.mono (Below.refl _ _))
          have HN := Lib.hid (HN0.out.mono HB1.out |>.mono (Below.refl _ _))
          clear hb1 k kf hq0 hq1
          unfold layV
          go_upto_region 7 with (fail)
          go_wp2_with fail
          obtain ⟨L, hL⟩ : ∃ L : ByteArray, L = ⟨l.toArray⟩ := ⟨_, rfl⟩
          have HLL := Lib.hid (show bytes L = l by rw [hL])
          have hl5 : L.size ≤ 5 := by rw [← blen, HLL.out]; exact HL5.out
          rw [← hL]
          clear hL
          go_loopw [9, 9] (fun i _ wr => ∃ (j : Nat) (x : XS), j ≤ L.size ∧ i = .int .i64 j ∧ xAll l ⟨T, N, [], false⟩ = xAll (l.drop j) x ∧ ((x.bad = false → xr x ≤ 800000) ∧ xr x ≤ 800021) ∧ IsR w1 wr x) (fun i _ _ => L.size - (RowKit.intOf i).toNat)
          case atStart => exact ⟨0, _, Nat.zero_le _, rfl, rfl, ⟨fun _ => HROOM.out, Nat.le_trans HROOM.out (by decide)⟩, isr_new HT.out HN.out (Below.refl _ _)⟩
          case round =>
            obtain ⟨j, x, hj, rfl, hk, hrm, tv', nv', hW⟩ := hrel
            have HK := Lib.hid hk
            have c3 := hW.c3
            have HW := Lib.hid hW
            have HR9 := Lib.hid (Nat.le_trans hrm.2 (show 800021 ≤ 850000 by decide))
            clear hk hW
            by_cases hlt : j < L.size
            · have hlt' : (j : Int) < L.size := by omega
              cases hb : x.bad with
              | true =>
                have HX := Lib.hid (all_bad HK.out hb)
                rw [hb] at c3
                clear hrm hb
                go_wp2_with fail
                clear c3
                have HEN := Lib.hid (HENDS.out x HX.out)
                have hb0 := HW.out.below
                have g0 : wr.cell? ⟨w.heap.size, 0, none⟩ = some (.int .u8 ci) := (hb0.cell (p := ⟨w.heap.size, 0, none⟩) (by exact HS.out.1)).trans G.out.1
                have g1 : wr.cell? ⟨w.heap.size + 1, 0, none⟩ = some (.int .u8 0) := (hb0.cell (p := ⟨w.heap.size + 1, 0, none⟩) (by exact HS.out.2)).trans G.out.2.1
                have g2 : wr.cell? ⟨w.heap.size + 1, 1, none⟩ = some (.string { data := #[] }) := (hb0.cell (p := ⟨w.heap.size + 1, 1, none⟩) (by exact HS.out.2)).trans G.out.2.2.1
                have g3 : wr.frozen? ⟨w.heap.size + 1, 0, none⟩ = false := (hb0.frozen (p := ⟨w.heap.size + 1, 0, none⟩) (by exact HS.out.2)).trans G.out.2.2.2.1
                have g4 : wr.frozen? ⟨w.heap.size + 1, 1, none⟩ = false := (hb0.frozen (p := ⟨w.heap.size + 1, 1, none⟩) (by exact HS.out.2)).trans G.out.2.2.2.2
                have HBB := Lib.hid (HB1.out.trans (hb0.mono (by have := HS.out.1; omega)))
                have c0 := HW.out.c0
                have c1 := HW.out.c1
                have c2 := HW.out.c2
                have c3 := HW.out.c3
                obtain ⟨xa, xn, xc, rfl, hxl, _⟩ := HW.out.texts
                obtain ⟨ya, yn, yc, rfl, hyl, _⟩ := HW.out.nums
                have hxs : xn ≤ 900000 := by have := texts_room (s := x); have h3 := HR9.out; omega
                have hys : yn ≤ 900000 := by have h1 := xr_eq x; have h3 := HR9.out; omega
                have hsz : x.B.length ≤ 900000 := by have := xr_len x; have h3 := HR9.out; omega
                have HXL := Lib.hid hxl; have HYL := Lib.hid hyl
                clear hb0 hxl hyl
                cases hb : x.bad with
                | true =>
                  rw [hb] at c3
                  have HRN := Lib.hid (show R = none from by
                    rcases HEN.out with ⟨_, e⟩ | ⟨e, _⟩
                    · exact e
                    · rw [hb] at e; cases e)
                  clear hb
                  go_upto_region 11 with (fail)
                  go_quiet (fail)
                  go_wp2_with fail
                  rw [HRN.out]
                  simp [bodyPost, results, Tryz.results41, go_sem, g1, g2, encV, encE]
                  exact ((below_drewN HBB.out _).setCell (by show w.heap.size ≤ w.heap.size + 1; omega) _).setCell (by show w.heap.size ≤ w.heap.size + 1; omega) _
                | false =>
                  rw [hb] at c3
                  have HRN := Lib.hid (show R = if x.T = [] ∧ x.N = [] then some x.B else none from by
                    rcases HEN.out with ⟨e, _⟩ | ⟨_, e⟩
                    · rw [hb] at e; cases e
                    · exact e)
                  clear hb
                  by_cases hz : xn + yn = 0
                  · obtain rfl : xn = 0 := by omega
                    obtain rfl : yn = 0 := by omega
                    have HR0 := Lib.hid (show R = some x.B by rw [HRN.out, if_pos ⟨List.length_eq_zero_iff.1 HXL.out, List.length_eq_zero_iff.1 HYL.out⟩])
                    clear hz
                    by_cases hlong : 10000 < x.B.length
                    · have hl' : (10000 : Int) < x.B.length := by omega
                      go_upto_region 11 with (fail)
                      go_quiet (fail)
                      go_wp2_with fail
                      rw [HR0.out]
                      simp [bodyPost, results, Tryz.results41, go_sem, g1, g2, encV, encE, hlong]
                      exact ((below_drewN HBB.out _).setCell (by show w.heap.size ≤ w.heap.size + 1; omega) _).setCell (by show w.heap.size ≤ w.heap.size + 1; omega) _
                    · have hl' : ¬ (10000 : Int) < x.B.length := by omega
                      go_upto_region 11 with (fail)
                      go_quiet (fail)
                      go_upto_region 15 with (fail)
                      go_region
                      all_goals
                        go_wp2_with fail
                        rw [HR0.out]
                        simp [bodyPost, results, Tryz.results41, go_sem, g1, g2, encV, encE, hlong, HCI.out]
                        exact ((below_drewN HBB.out _).setCell (by show w.heap.size ≤ w.heap.size + 1; omega) _).setCell (by show w.heap.size ≤ w.heap.size + 1; omega) _
                  · have hz1 : (0 : Int) < (xn : Int) + yn := by omega
                    have HR0 := Lib.hid (show R = none by
                      rw [HRN.out, if_neg]
                      rintro ⟨h1, h2⟩
                      have := HXL.out; have := HYL.out
                      rw [h1] at *; rw [h2] at *
                      simp at *
                      omega)
                    clear hz
                    go_upto_region 11 with (fail)
                    go_quiet (fail)
                    go_wp2_with fail
                    rw [HR0.out]
                    simp [bodyPost, results, Tryz.results41, go_sem, g1, g2, encV, encE]
                    exact ((below_drewN HBB.out _).setCell (by show w.heap.size ≤ w.heap.size + 1; omega) _).setCell (by show w.heap.size ≤ w.heap.size + 1; omega) _
              | false =>
                have hr0 := hrm.1 hb
                have hlj : l[j]? = some L[j] := by rw [← HLL.out]; exact List.getElem?_eq_getElem (by rw [blen]; exact hlt)
                have HNX := Lib.hid (all_next HK.out hlj hb)
                have HLJ := Lib.hid (HLET.out L[j] (List.mem_of_getElem? hlj))
                have HRM := Lib.hid (show ((xField L[j] x).bad = false → xr (xField L[j] x) ≤ 800000) ∧ xr (xField L[j] x) ≤ 800021 from
                  ⟨fun h => Nat.le_trans ((step_field _).good x h) hr0, Nat.le_trans ((step_field _).room x) (by omega)⟩)
                rw [hb] at c3
                clear hrm hb hr0 hlj
                go_wp2_with fail
                refine (rfield_any w1 wr x L[j] HLJ.out HR9.out ⟨_, _, HW.out⟩).mono ?_; rintro e w6 ⟨rfl, hI⟩
                have HI6 := Lib.hid hI
                clear hI
                go_wp2_with fail
                go_roundw
                case measure => first | omega | (simp [RowKit.intOf]; omega)
                case rel => exact ⟨j + 1, _, by omega, by go_num, HNX.out, HRM.out, HI6.out⟩
            · have hjz : j = L.size := by omega
              have HX := Lib.hid (show xAll l ⟨T, N, [], false⟩ = x by
                have := HK.out
                rw [hjz, ← blen, HLL.out, List.drop_length] at this
                exact this)
              have hge : ¬ (j : Int) < L.size := by omega
              clear hjz hrm
              go_wp2_with fail
              clear c3
              have HEN := Lib.hid (HENDS.out x HX.out)
              have hb0 := HW.out.below
              have g0 : wr.cell? ⟨w.heap.size, 0, none⟩ = some (.int .u8 ci) := (hb0.cell (p := ⟨w.heap.size, 0, none⟩) (by exact HS.out.1)).trans G.out.1
              have g1 : wr.cell? ⟨w.heap.size + 1, 0, none⟩ = some (.int .u8 0) := (hb0.cell (p := ⟨w.heap.size + 1, 0, none⟩) (by exact HS.out.2)).trans G.out.2.1
              have g2 : wr.cell? ⟨w.heap.size + 1, 1, none⟩ = some (.string { data := #[] }) := (hb0.cell (p := ⟨w.heap.size + 1, 1, none⟩) (by exact HS.out.2)).trans G.out.2.2.1
              have g3 : wr.frozen? ⟨w.heap.size + 1, 0, none⟩ = false := (hb0.frozen (p := ⟨w.heap.size + 1, 0, none⟩) (by exact HS.out.2)).trans G.out.2.2.2.1
              have g4 : wr.frozen? ⟨w.heap.size + 1, 1, none⟩ = false := (hb0.frozen (p := ⟨w.heap.size + 1, 1, none⟩) (by exact HS.out.2)).trans G.out.2.2.2.2
              have HBB := Lib.hid (HB1.out.trans (hb0.mono (by have := HS.out.1; omega)))
              have c0 := HW.out.c0
              have c1 := HW.out.c1
              have c2 := HW.out.c2
              have c3 := HW.out.c3
              obtain ⟨xa, xn, xc, rfl, hxl, _⟩ := HW.out.texts
              obtain ⟨ya, yn, yc, rfl, hyl, _⟩ := HW.out.nums
              have hxs : xn ≤ 900000 := by have := texts_room (s := x); have h3 := HR9.out; omega
              have hys : yn ≤ 900000 := by have h1 := xr_eq x; have h3 := HR9.out; omega
              have hsz : x.B.length ≤ 900000 := by have := xr_len x; have h3 := HR9.out; omega
              have HXL := Lib.hid hxl; have HYL := Lib.hid hyl
              clear hb0 hxl hyl
              cases hb : x.bad with
              | true =>
                rw [hb] at c3
                have HRN := Lib.hid (show R = none from by
                  rcases HEN.out with ⟨_, e⟩ | ⟨e, _⟩
                  · exact e
                  · rw [hb] at e; cases e)
                clear hb
                go_upto_region 11 with (fail)
                go_quiet (fail)
                go_wp2_with fail
                rw [HRN.out]
                simp [bodyPost, results, Tryz.results41, go_sem, g1, g2, encV, encE]
                exact ((below_drewN HBB.out _).setCell (by show w.heap.size ≤ w.heap.size + 1; omega) _).setCell (by show w.heap.size ≤ w.heap.size + 1; omega) _
              | false =>
                rw [hb] at c3
                have HRN := Lib.hid (show R = if x.T = [] ∧ x.N = [] then some x.B else none from by
                  rcases HEN.out with ⟨e, _⟩ | ⟨_, e⟩
                  · rw [hb] at e; cases e
                  · exact e)
                clear hb
                by_cases hz : xn + yn = 0
                · obtain rfl : xn = 0 := by omega
                  obtain rfl : yn = 0 := by omega
                  have HR0 := Lib.hid (show R = some x.B by rw [HRN.out, if_pos ⟨List.length_eq_zero_iff.1 HXL.out, List.length_eq_zero_iff.1 HYL.out⟩])
                  clear hz
                  by_cases hlong : 10000 < x.B.length
                  · have hl' : (10000 : Int) < x.B.length := by omega
                    go_upto_region 11 with (fail)
                    go_quiet (fail)
                    go_wp2_with fail
                    rw [HR0.out]
                    simp [bodyPost, results, Tryz.results41, go_sem, g1, g2, encV, encE, hlong]
                    exact ((below_drewN HBB.out _).setCell (by show w.heap.size ≤ w.heap.size + 1; omega) _).setCell (by show w.heap.size ≤ w.heap.size + 1; omega) _
                  · have hl' : ¬ (10000 : Int) < x.B.length := by omega
                    go_upto_region 11 with (fail)
                    go_quiet (fail)
                    go_upto_region 15 with (fail)
                    go_region
                    all_goals
                      go_wp2_with fail
                      rw [HR0.out]
                      simp [bodyPost, results, Tryz.results41, go_sem, g1, g2, encV, encE, hlong, HCI.out]
                      exact ((below_drewN HBB.out _).setCell (by show w.heap.size ≤ w.heap.size + 1; omega) _).setCell (by show w.heap.size ≤ w.heap.size + 1; omega) _
                · have hz1 : (0 : Int) < (xn : Int) + yn := by omega
                  have HR0 := Lib.hid (show R = none by
                    rw [HRN.out, if_neg]
                    rintro ⟨h1, h2⟩
                    have := HXL.out; have := HYL.out
                    rw [h1] at *; rw [h2] at *
                    simp at *
                    omega)
                  clear hz
                  go_upto_region 11 with (fail)
                  go_quiet (fail)
                  go_wp2_with fail
                  rw [HR0.out]
                  simp [bodyPost, results, Tryz.results41, go_sem, g1, g2, encV, encE]
                  exact ((below_drewN HBB.out _).setCell (by show w.heap.size ≤ w.heap.size + 1; omega) _).setCell (by show w.heap.size ≤ w.heap.size + 1; omega) _
end Go.Proofs.YtmofnkinclckoaaGreatDoor
