/- Contracts and mathematics: QD. -/
import Derived.Test.YtmofnkinclckoaaGreatDoorZ29
import Derived.Test.YtmofnkinclckoaaGreatDoorZ33
import Derived.Test.YtmofnkinclckoaaGreatDoorZ34
import Derived.Test.YtmofnkinclckoaaGreatDoorZ18
import Derived.Test.YtmofnkinclckoaaGreatDoorZ35
namespace Go.Proofs.YtmofnkinclckoaaGreatDoor
open Go.RowKit Go.Lib Go.WideShapes

theorem isq_new (w0 : World) (S : Bs) (k : Int) : IsQ w0 (w0.alloc (.cells #[.string ⟨S.toArray⟩, .int .u8 k, .slice none 0 0, .slice none 0 0, .bool false] 92)) k ⟨⟨S, [], []⟩, false⟩ := by
  exact ⟨.slice none 0 0, .slice none 0 0, (Below.refl _ _).alloc (Nat.le_refl _) _, heap_alloc_new _ _, ⟨rfl, .inl ⟨rfl, rfl⟩⟩, ⟨rfl, .inl ⟨rfl, rfl⟩⟩⟩
set_option maxRecDepth 100000 in
set_option maxHeartbeats 32000000 in
theorem rdecode_any (w : World) (back : Bool) (c : UInt8) (S : Bs) (hl : S.length ≤ 9900) :
    Calls Tryz.prog 27 #[.bool back, .agg #[.int .u8 (c.toNat : Nat), .string ⟨S.toArray⟩]] w (MsgOut w c 2 (readL back c S)) := by
  obtain ⟨ci, hci⟩ : ∃ ci : Int, ci = (c.toNat : Nat) := ⟨_, rfl⟩
  obtain ⟨sb, hsb⟩ : ∃ sb : ByteArray, sb = ⟨S.toArray⟩ := ⟨_, rfl⟩
  have hsz : sb.size = S.length := by rw [hsb, bsize]
  have hsz9 : sb.size ≤ 9900 := by omega
  obtain ⟨W0, hW0⟩ : ∃ x, x = (w.alloc (.cells #[.int .u8 ci, .string sb] 58)).alloc (.cells #[.int .u8 0, .slice none 0 0, .slice none 0 0] 72) := ⟨_, rfl⟩
  have hz : W0.heap.size = w.heap.size + 1 + 1 := by rw [hW0]; simp
  have HB := Lib.hid (show Below w.heap.size w W0 by rw [hW0]; exact ((Below.refl _ _).alloc (Nat.le_refl _) _).alloc (by simp) _)
  have HK := Lib.hid (show ∀ W, Below W0.heap.size W0 W → (W.cell? ⟨w.heap.size, 0, none⟩ = some (.int .u8 ci) ∧ W.cell? ⟨w.heap.size, 1, none⟩ = some (.string sb)) ∧ W.cell? ⟨w.heap.size + 1, 0, none⟩ = some (.int .u8 0) ∧ W.cell? ⟨w.heap.size + 1, 1, none⟩ = some (.slice none 0 0) ∧ W.cell? ⟨w.heap.size + 1, 2, none⟩ = some (.slice none 0 0) ∧ W.frozen? ⟨w.heap.size + 1, 0, none⟩ = false ∧ W.frozen? ⟨w.heap.size + 1, 1, none⟩ = false ∧ W.frozen? ⟨w.heap.size + 1, 2, none⟩ = false from by
    intro W hW
    have k : ∀ q i, q < W0.heap.size → W.cell? ⟨q, i, none⟩ = W0.cell? ⟨q, i, none⟩ := fun q i h => hW.cell (p := ⟨q, i, none⟩) h
    have f : ∀ i, W.frozen? ⟨w.heap.size + 1, i, none⟩ = W0.frozen? ⟨w.heap.size + 1, i, none⟩ := fun i => hW.frozen (p := ⟨w.heap.size + 1, i, none⟩) (by show w.heap.size + 1 < _; omega)
    refine ⟨⟨(k _ 0 (by omega)).trans ?_, (k _ 1 (by omega)).trans ?_⟩, (k _ 0 (by omega)).trans ?_, (k _ 1 (by omega)).trans ?_, (k _ 2 (by omega)).trans ?_, (f 0).trans ?_, (f 1).trans ?_, (f 2).trans ?_⟩ <;> (rw [hW0]; simp [go_sem]))
  have HE := Lib.hid hW0
  have HZ := Lib.hid hz
  have HCI := Lib.hid hci
  have HSB := Lib.hid hsb
  have HSZ := Lib.hid hsz
  have HL := Lib.hid hl
  have HLY := Lib.hid (rlay_any W0 back c)
  obtain ⟨RR, hRR⟩ : ∃ z, z = readL back c S := ⟨_, rfl⟩
  have HRR := Lib.hid hRR
  rw [← hci] at HLY
  rw [← hsb, ← hci, ← hRR]
  obtain ⟨⟨a0, a1⟩, b0, b1, b2, g0, g1, g2⟩ := HK.out W0 (Below.refl _ _)
  clear hci hsb hsz hW0 hz hRR hl
  cases hlay : lay back c with
  | none =>
    rw [hlay, show layV none = .tuple #[.string { data := #[] }, .bool false] from rfl] at HLY
    have HNO := Lib.hid (show RR = none from by
      rw [HRR.out]
      unfold readL layR
      rw [if_neg (fun h => by obtain ⟨rfl, rfl, _⟩ := h; rw [lay_bare] at hlay; cases hlay), hlay]; rfl)
    clear hlay a0 a1
    go_enter Tryz.func27, Tryz.ntmps27
    go_wp2_with fail
    rw [← HE.out]
    refine HLY.out.mono ?_; rintro e w1 ⟨rfl, hb⟩
    clear b0 b1 b2 g0 g1 g2
    obtain ⟨⟨a0, a1⟩, b0, b1, b2, g0, g1, g2⟩ := HK.out w1 hb
    have HB1 := Lib.hid (HB.out.trans (hb.mono (by rw [HZ.out]; omega)))
    have HB2 := Lib.hid (HB1.out.alloc HB1.out.size (.cells #[.string sb, .int .u8 ci, .slice none 0 0, .slice none 0 0, .bool false] 92))
    have hz1 : w.heap.size + 1 < w1.heap.size := by have := hb.size; have := HZ.out; omega
    clear hb
    go_wp2_with fail
    rw [HNO.out]
    simp [bodyPost, results, Tryz.results27, go_sem, b0, b1, b2, hz1]
    exact ⟨rfl, (((HB1.out.setCell (by show w.heap.size ≤ w.heap.size + 1; omega) _).setCell (by show w.heap.size ≤ w.heap.size + 1; omega) _).setCell (by show w.heap.size ≤ w.heap.size + 1; omega) _).alloc (by simp only [World.size_setCell]; omega) _⟩
  | some l0 =>
    rw [hlay, show layV (some l0) = .tuple #[.string ⟨l0.toArray⟩, .bool true] from rfl] at HLY
    have HLL := Lib.hid (lay_letters hlay)
    have HQ0 := Lib.hid (show qInv back c S l0 0 ⟨⟨S, [], []⟩, false⟩ from fun T N h => ⟨rfl, fun _ => ⟨hlay, rfl⟩, fun h0 => absurd h0 (Nat.lt_irrefl 0)⟩)
    clear hlay a0 a1
    go_enter Tryz.func27, Tryz.ntmps27
    go_wp2_with fail
    rw [← HE.out]
    refine HLY.out.mono ?_; rintro e w1 ⟨rfl, hb⟩
    clear b0 b1 b2 g0 g1 g2
    obtain ⟨⟨a0, a1⟩, b0, b1, b2, g0, g1, g2⟩ := HK.out w1 hb
    have HB0 := Lib.hid hb
    have HNEW := Lib.hid (isq_new w1 S ci)
    rw [← HSB.out] at HNEW
    have hz1 : w.heap.size + 1 < w1.heap.size := by have := hb.size; have := HZ.out; omega
    clear hb
    go_wp2_with fail
    go_loopw [9, 6] (fun i lv wr => ∃ (j : Nat) (l : Bs) (q : QS), j ≤ l.length ∧ i = .int .i64 j ∧ lv = .string ⟨l.toArray⟩ ∧ IsQ w1 wr ci q ∧ qpot q.s ≤ S.length + 2 * j ∧ ((∀ d ∈ l, letter d = true) ∧ l.length ≤ 5) ∧ qInv back c S l j q) (fun i _ _ => 6 - (RowKit.intOf i).toNat)
    case atStart => exact ⟨0, l0, _, Nat.zero_le _, rfl, rfl, HNEW.out, by simp [qpot], HLL.out, HQ0.out⟩
    case round =>
      obtain ⟨j, l, q, hj, rfl, rfl, hI, hp, hl5, hq⟩ := hrel
      have HI := Lib.hid hI; have HP := Lib.hid hp; have HL5 := Lib.hid hl5; have HQI := Lib.hid hq
      obtain ⟨tv0, nv0, hQ0⟩ := hI
      have c4 := hQ0.cell.2.2.2.2
      obtain ⟨lb, hlb⟩ : ∃ z : ByteArray, z = ⟨l.toArray⟩ := ⟨_, rfl⟩
      have hlz : lb.size = l.length := by rw [hlb, bsize]
      have hlby : bytes lb = l := by simp [hlb, bytes]
      have hls5 : lb.size ≤ 5 := by rw [hlz]; exact hl5.2
      have HLZ := Lib.hid hlz; have HLB := Lib.hid hlb; have HLBY := Lib.hid hlby
      have HP9 := Lib.hid (show qpot q.s ≤ 9910 by have := HL.out; have := hl5.2; omega)
      rw [← hlb]
      clear hQ0 hp hl5 hq hlb hlby
      by_cases hlt : j < l.length
      · have hlt1 : j < lb.size := by omega
        have hlt' : (j : Int) < lb.size := by omega
        cases hb : q.bad with
        | true =>
          rw [hb] at c4
          have HFIN := Lib.hid (show ∀ T N, readL back c S = some (T, N) → q = ⟨⟨[], T, N⟩, false⟩ from fun T N h => by rw [qinv_bad HQI.out hb] at h; cases h)
          have HBAD := Lib.hid hb
          clear hlz hj hlt hb c4
          have hI9 := HI.out
          obtain ⟨tv, nv, hQ⟩ := hI9
          have HEA := Lib.hid (rencode_any wr back c q.s.T q.s.N tv nv (own_textsIn hQ.texts) (own_numsIn hQ.nums) (by have := (qpot_bounds HP9.out).2; omega) (by have := (qpot_bounds HP9.out).1; omega))
          have HQ9 := Lib.hid hQ
          obtain ⟨c0, c1, c2, c3, c4⟩ := hQ.cell
          obtain ⟨ta, tc, rfl⟩ := ownsRow_form hQ.texts
          obtain ⟨na, nc, rfl⟩ := ownsRow_form hQ.nums
          obtain ⟨xb, hxb⟩ : ∃ z : ByteArray, z = ⟨q.s.S.toArray⟩ := ⟨_, rfl⟩
          obtain ⟨R, hR⟩ : ∃ z, z = written back c q.s.T q.s.N := ⟨_, rfl⟩
          obtain ⟨X, hX⟩ : ∃ z, z = encX c R := ⟨_, rfl⟩
          obtain ⟨yb, hyb⟩ : ∃ z, z = encB R := ⟨_, rfl⟩
          obtain ⟨E, hE⟩ : ∃ z, z = encE R := ⟨_, rfl⟩
          have HXB := Lib.hid hxb; have HR := Lib.hid hR; have HX := Lib.hid hX; have HYB := Lib.hid hyb; have HER := Lib.hid hE
          rw [← HCI.out, ← hR, encV_form, ← hX, ← hyb, ← hE] at HEA
          rw [← hxb] at c0
          rw [HBAD.out] at c4
          clear hQ hxb hR hX hyb hE
          go_wp2_with fail
          refine HEA.out.mono ?_; rintro e w6 ⟨rfl, hb⟩
          have hlt9 := HQ9.out.lt
          have HB6 := Lib.hid (HB0.out.trans (HQ9.out.below.mono HB0.out.size) |>.trans (hb.mono (Nat.le_trans HB0.out.size (Nat.le_of_lt hlt9))))
          have HBW := Lib.hid (HB.out.trans (HB6.out.mono (by rw [HZ.out]; omega)))
          have HB7 := Lib.hid (HBW.out.alloc HBW.out.size (.cells #[.int .u8 X, .string yb] 58))
          have hz6 : w.heap.size + 1 < w6.heap.size := by have := HB6.out.size; have := HZ.out; omega
          have hz60 : w.heap.size < w6.heap.size := by omega
          have hq6 : w1.heap.size < w6.heap.size := Nat.lt_of_lt_of_le hlt9 hb.size
          clear c0 c1 c2 c3 c4
          obtain ⟨c0, c1, c2, c3, c4⟩ := HQ9.out.cell
          have c0 := (hb.cell (p := ⟨w1.heap.size, 0, none⟩) hlt9).trans c0
          have c1 := (hb.cell (p := ⟨w1.heap.size, 1, none⟩) hlt9).trans c1
          have c2 := (hb.cell (p := ⟨w1.heap.size, 2, none⟩) hlt9).trans c2
          have c3 := (hb.cell (p := ⟨w1.heap.size, 3, none⟩) hlt9).trans c3
          have c4 := (hb.cell (p := ⟨w1.heap.size, 4, none⟩) hlt9).trans c4
          rw [← HXB.out] at c0
          have HT6 := Lib.hid (own_grown HQ9.out.texts hb (Nat.le_refl _)); have HN6 := Lib.hid (own_grown HQ9.out.nums hb (Nat.le_refl _))
          clear hb hlt9 a0 a1 b0 b1 b2 g0 g1 g2
          obtain ⟨⟨a0, a1⟩, b0, b1, b2, g0, g1, g2⟩ := HK.out w6 HB6.out
          by_cases hbad : q.bad = true
          · rw [hbad] at c4
            have HNO := Lib.hid (show RR = none from by
              rw [HRR.out]
              cases hr : readL back c S with
              | none => rfl
              | some p =>
                exfalso
                have h1 := HFIN.out p.1 p.2 hr
                rw [h1] at hbad; cases hbad)
            clear hbad
            go_wp2_with fail
            rw [HNO.out]
            simp [bodyPost, results, Tryz.results27, go_sem, b0, b1, b2, hz6]
            exact ⟨rfl, (((HBW.out.setCell (by show w.heap.size ≤ w.heap.size + 1; omega) _).setCell (by show w.heap.size ≤ w.heap.size + 1; omega) _).setCell (by show w.heap.size ≤ w.heap.size + 1; omega) _).alloc (by simp only [World.size_setCell]; omega) _⟩
          · have hb0 : q.bad = false := by simpa using hbad
            rw [hb0] at c4
            clear hbad
            by_cases hx : q.s.S = []
            · have hxe : xb = { data := #[] } := by rw [HXB.out, hx]
              rw [hxe] at c0
              clear hx hb0
              by_cases he : E = 0
              · have he0 : encE R = 0 := by rw [← HER.out]; exact he
                obtain ⟨B, hRB, hBl⟩ := encE_zero he0
                have hXc : X = ci := by rw [HX.out, HCI.out]; exact if_pos he0
                have hYb : yb = ⟨B.toArray⟩ := by rw [HYB.out, show encB R = (⟨(R.getD []).toArray⟩ : ByteArray) from if_pos he0, hRB]; rfl
                subst hXc
                have he1 : (E == 0) = true := by simpa using he
                by_cases hyS : yb = sb
                · have hBS : B = S := by
                    have h1 : (⟨B.toArray⟩ : ByteArray) = ⟨S.toArray⟩ := by rw [← hYb, hyS, HSB.out]
                    have h2 := congrArg bytes h1
                    simpa [bytes] using h2
                  have HYES := Lib.hid (show RR = some (q.s.T, q.s.N) from by
                    rw [HRR.out, ← hBS]
                    exact read_of_written (by rw [← HR.out, hRB]))
                  subst hyS
                  clear hRB hBl hYb hBS he0
                  go_wp2_with fail
                  rw [HYES.out]
                  simp [bodyPost, results, Tryz.results27, go_sem, b0, b1, b2, hz6]
                  exact ⟨_, _, by rw [HCI.out], own_base (own_grown (own_three HT6.out _ (by omega) _ _ _) ((Below.refl _ _).alloc (Nat.le_refl _) _) (Nat.le_refl _)) (by omega), own_base (own_grown (own_three HN6.out _ (by omega) _ _ _) ((Below.refl _ _).alloc (Nat.le_refl _) _) (Nat.le_refl _)) (by omega), (((HBW.out.setCell (by show w.heap.size ≤ w.heap.size + 1; omega) _).setCell (by show w.heap.size ≤ w.heap.size + 1; omega) _).setCell (by show w.heap.size ≤ w.heap.size + 1; omega) _).alloc (by simp only [World.size_setCell]; omega) _⟩
                · have hyb2 : ¬ (⟨B.toArray⟩ : ByteArray) = sb := by rw [← hYb]; exact hyS
                  have HNO := Lib.hid (show RR = none from by
                    rw [HRR.out]
                    cases hr : readL back c S with
                    | none => rfl
                    | some p =>
                      exfalso
                      have h1 := HFIN.out p.1 p.2 hr
                      have h2 := written_of_read hr
                      have h3 : R = some S := by rw [HR.out, h1]; exact h2
                      rw [hRB] at h3
                      exact hyb2 (by rw [Option.some.inj h3, HSB.out]))
                  have hne : (yb.toList == sb.toList) = false := by
                    rw [Lib.toList_data, Lib.toList_data, beq_eq_false_iff_ne]
                    exact fun e => hyS (ByteArray.ext (Array.toList_inj.1 e))
                  clear hRB hBl hYb he0 hyb2
                  go_wp2_with fail
                  rw [HNO.out]
                  simp [bodyPost, results, Tryz.results27, go_sem, b0, b1, b2, hz6]
                  exact ⟨rfl, (((HBW.out.setCell (by show w.heap.size ≤ w.heap.size + 1; omega) _).setCell (by show w.heap.size ≤ w.heap.size + 1; omega) _).setCell (by show w.heap.size ≤ w.heap.size + 1; omega) _).alloc (by simp only [World.size_setCell]; omega) _⟩
              · have he1 : (E != 0) = true := by simpa using he
                have HNO := Lib.hid (show RR = none from by
                  rw [HRR.out]
                  cases hr : readL back c S with
                  | none => rfl
                  | some p =>
                    exfalso
                    have h1 := HFIN.out p.1 p.2 hr
                    have h2 := written_of_read hr
                    have h3 : R = some S := by rw [HR.out, h1]; exact h2
                    exact he (by rw [HER.out, h3]; exact if_neg (by have := HL.out; omega)))
                clear he
                go_wp2_with fail
                rw [HNO.out]
                simp [bodyPost, results, Tryz.results27, go_sem, b0, b1, b2, hz6]
                exact ⟨rfl, (((HBW.out.setCell (by show w.heap.size ≤ w.heap.size + 1; omega) _).setCell (by show w.heap.size ≤ w.heap.size + 1; omega) _).setCell (by show w.heap.size ≤ w.heap.size + 1; omega) _).alloc (by simp only [World.size_setCell]; omega) _⟩
            · have hxe : xb.toList.isEmpty = false := by
                rw [Lib.toList_data, HXB.out]
                cases hx9 : q.s.S with
                | nil => exact absurd hx9 hx
                | cons _ _ => rfl
              have HNO := Lib.hid (show RR = none from by
                rw [HRR.out]
                cases hr : readL back c S with
                | none => rfl
                | some p =>
                  exfalso
                  have h1 := HFIN.out p.1 p.2 hr
                  exact hx (by rw [h1]))
              clear hx hb0
              go_wp2_with fail
              rw [HNO.out]
              simp [bodyPost, results, Tryz.results27, go_sem, b0, b1, b2, hz6]
              exact ⟨rfl, (((HBW.out.setCell (by show w.heap.size ≤ w.heap.size + 1; omega) _).setCell (by show w.heap.size ≤ w.heap.size + 1; omega) _).setCell (by show w.heap.size ≤ w.heap.size + 1; omega) _).alloc (by simp only [World.size_setCell]; omega) _⟩
        | false =>
          rw [hb] at c4
          have hlj : l[j]? = some lb[j] := by
            have h9 : (bytes lb)[j]? = some lb[j] := List.getElem?_eq_getElem (by rw [blen]; exact hlt1)
            rw [HLBY.out] at h9; exact h9
          have hql := by
            have h : letter lb[j] = true := HL5.out.1 lb[j] (List.mem_of_getElem? hlj)
            simpa [letter] using h
          have hIQ : IsQ w1 wr ci ⟨q.s, false⟩ := by rw [← hb]; exact HI.out
          have HQF := Lib.hid (qfield_any w1 wr ci q.s lb[j] (by simpa using hql) (by have := HP9.out; omega) hIQ)
          have HLJ := Lib.hid hlj
          clear hlz hlt hb hql hIQ hlj
          go_wp2_with fail
          refine HQF.out.mono ?_; rintro e w6 ⟨rfl, q1, hI1, hp1, hs1⟩
          have HST := Lib.hid (qinv_step HQI.out HLJ.out hs1)
          have HP1 := Lib.hid (show qpot q1.s ≤ S.length + 2 * (j + 1) by have := HP.out; omega)
          have HI1 := Lib.hid hI1
          have HJ := Lib.hid (show j + 1 ≤ l.length by have := HLZ.out; omega)
          obtain ⟨tv1, nv1, hQ1⟩ := hI1
          obtain ⟨⟨a0, a1⟩, _⟩ := HK.out w6 (HB0.out.trans (hQ1.below.mono HB0.out.size))
          have c3 := hQ1.cell.2.2.2.1
          obtain ⟨na', nn', nc', rfl, hnl, _, _, hnr⟩ := own_numsIn hQ1.nums
          have HNL := Lib.hid hnl
          clear hQ1 hs1 hp1 hnl c4
          by_cases hj0 : j = 0
          · have hj1 : ((j : Int) == 0) = true := by rw [hj0]; rfl
            cases back with
            | true =>
              have HCN := Lib.hid (show qInv true c S l (j + 1) q1 from by
                have h := HST.out
                rw [if_neg (fun h => absurd (of_decide_eq_true h).2.1 (by decide))] at h; exact h)
              clear hnr c3 a0 a1
              go_wp2_with fail
              go_roundw
              case measure => first | omega | (simp [RowKit.intOf]; omega)
              case rel => exact ⟨j + 1, l, q1, HJ.out, by go_num, by rw [HLB.out], HI1.out, HP1.out, HL5.out, HCN.out⟩
            | false =>
              by_cases hc : c = 0
              · have hcb : (ci == 0) = true := by rw [HCI.out, hc]; rfl
                cases hN : q1.s.N with
                | nil =>
                  obtain rfl : 0 = nn' := by have := HNL.out; rw [hN] at this; exact this
                  have HCN := Lib.hid (show qInv false c S l (j + 1) q1 from by
                    have h := HST.out
                    rw [if_neg (fun h => by have := (of_decide_eq_true h).2.2.2; rw [hN] at this; cases this)] at h; exact h)
                  clear hnr hN hc
                  go_wp2_with fail
                  go_roundw
                  case measure => first | omega | (simp [RowKit.intOf]; omega)
                  case rel => exact ⟨j + 1, l, q1, HJ.out, by go_num, by rw [HLB.out], HI1.out, HP1.out, HL5.out, HCN.out⟩
                | cons n r =>
                  obtain ⟨g, off, rfl, hg, hcell⟩ := hnr.resolve_left (by rw [hN]; intro h; cases h)
                  have d0 := hcell 0 n (by rw [hN]; rfl)
                  rw [Nat.add_zero] at d0
                  have hnn : 0 < nn' := by rw [← HNL.out, hN]; exact Nat.succ_pos _
                  have hnn' : (0 : Int) < nn' := by omega
                  by_cases hm : n = 80877102
                  · subst hm
                    have HCN := Lib.hid (show qInv false c S [105, 105, 105] (j + 1) q1 from by
                      have h := HST.out
                      rw [if_pos (show qCan false c j q1.s.N = true from decide_eq_true ⟨hj0, rfl, hc, by rw [hN]; rfl⟩)] at h; exact h)
                    clear hcell hN hc hnr
                    go_wp2_with fail
                    go_roundw
                    case measure => first | omega | (simp [RowKit.intOf]; omega)
                    case rel => exact ⟨j + 1, [105, 105, 105], q1, by rw [hj0]; decide, by go_num, rfl, HI1.out, HP1.out, ⟨by decide, by decide⟩, HCN.out⟩
                  · have hm1 : (n == 80877102) = false := by simpa using hm
                    have HCN := Lib.hid (show qInv false c S l (j + 1) q1 from by
                      have h := HST.out
                      rw [if_neg (fun h => by have := (of_decide_eq_true h).2.2.2; rw [hN] at this; exact hm (Option.some.inj this))] at h; exact h)
                    clear hcell hN hc hnr hm
                    go_wp2_with fail
                    go_roundw
                    case measure => first | omega | (simp [RowKit.intOf]; omega)
                    case rel => exact ⟨j + 1, l, q1, HJ.out, by go_num, by rw [HLB.out], HI1.out, HP1.out, HL5.out, HCN.out⟩
              · have hcb : (ci == 0) = false := by
                  rw [HCI.out, beq_eq_false_iff_ne]; intro e
                  exact hc (UInt8.toNat_inj.mp (by have : c.toNat = 0 := by omega
                                                   exact this))
                have HCN := Lib.hid (show qInv false c S l (j + 1) q1 from by
                  have h := HST.out
                  rw [if_neg (fun h => hc (of_decide_eq_true h).2.2.1)] at h; exact h)
                clear hnr c3 hc
                go_wp2_with fail
                go_roundw
                case measure => first | omega | (simp [RowKit.intOf]; omega)
                case rel => exact ⟨j + 1, l, q1, HJ.out, by go_num, by rw [HLB.out], HI1.out, HP1.out, HL5.out, HCN.out⟩
          · have hj1 : ((j : Int) == 0) = false := by rw [beq_eq_false_iff_ne]; omega
            have HCN := Lib.hid (show qInv back c S l (j + 1) q1 from by
              have h := HST.out
              rw [if_neg (fun h => hj0 (of_decide_eq_true h).1)] at h; exact h)
            clear hnr c3 a0 a1
            go_wp2_with fail
            go_roundw
            case measure => first | omega | (simp [RowKit.intOf]; omega)
            case rel => exact ⟨j + 1, l, q1, HJ.out, by go_num, by rw [HLB.out], HI1.out, HP1.out, HL5.out, HCN.out⟩
      · have hge : ¬ (j : Int) < lb.size := by omega
        have HFIN := Lib.hid (qinv_end HQI.out (Nat.le_of_not_lt hlt))
        clear hlz hj hlt c4
        have hI9 := HI.out
        obtain ⟨tv, nv, hQ⟩ := hI9
        have HEA := Lib.hid (rencode_any wr back c q.s.T q.s.N tv nv (own_textsIn hQ.texts) (own_numsIn hQ.nums) (by have := (qpot_bounds HP9.out).2; omega) (by have := (qpot_bounds HP9.out).1; omega))
        have HQ9 := Lib.hid hQ
        obtain ⟨c0, c1, c2, c3, c4⟩ := hQ.cell
        obtain ⟨ta, tc, rfl⟩ := ownsRow_form hQ.texts
        obtain ⟨na, nc, rfl⟩ := ownsRow_form hQ.nums
        obtain ⟨xb, hxb⟩ : ∃ z : ByteArray, z = ⟨q.s.S.toArray⟩ := ⟨_, rfl⟩
        obtain ⟨R, hR⟩ : ∃ z, z = written back c q.s.T q.s.N := ⟨_, rfl⟩
        obtain ⟨X, hX⟩ : ∃ z, z = encX c R := ⟨_, rfl⟩
        obtain ⟨yb, hyb⟩ : ∃ z, z = encB R := ⟨_, rfl⟩
        obtain ⟨E, hE⟩ : ∃ z, z = encE R := ⟨_, rfl⟩
        have HXB := Lib.hid hxb; have HR := Lib.hid hR; have HX := Lib.hid hX; have HYB := Lib.hid hyb; have HER := Lib.hid hE
        rw [← HCI.out, ← hR, encV_form, ← hX, ← hyb, ← hE] at HEA
        rw [← hxb] at c0
        clear hQ hxb hR hX hyb hE
        go_wp2_with fail
        refine HEA.out.mono ?_; rintro e w6 ⟨rfl, hb⟩
        have hlt9 := HQ9.out.lt
        have HB6 := Lib.hid (HB0.out.trans (HQ9.out.below.mono HB0.out.size) |>.trans (hb.mono (Nat.le_trans HB0.out.size (Nat.le_of_lt hlt9))))
        have HBW := Lib.hid (HB.out.trans (HB6.out.mono (by rw [HZ.out]; omega)))
        have HB7 := Lib.hid (HBW.out.alloc HBW.out.size (.cells #[.int .u8 X, .string yb] 58))
        have hz6 : w.heap.size + 1 < w6.heap.size := by have := HB6.out.size; have := HZ.out; omega
        have hz60 : w.heap.size < w6.heap.size := by omega
        have hq6 : w1.heap.size < w6.heap.size := Nat.lt_of_lt_of_le hlt9 hb.size
        clear c0 c1 c2 c3 c4
        obtain ⟨c0, c1, c2, c3, c4⟩ := HQ9.out.cell
        have c0 := (hb.cell (p := ⟨w1.heap.size, 0, none⟩) hlt9).trans c0
        have c1 := (hb.cell (p := ⟨w1.heap.size, 1, none⟩) hlt9).trans c1
        have c2 := (hb.cell (p := ⟨w1.heap.size, 2, none⟩) hlt9).trans c2
        have c3 := (hb.cell (p := ⟨w1.heap.size, 3, none⟩) hlt9).trans c3
        have c4 := (hb.cell (p := ⟨w1.heap.size, 4, none⟩) hlt9).trans c4
        rw [← HXB.out] at c0
        have HT6 := Lib.hid (own_grown HQ9.out.texts hb (Nat.le_refl _)); have HN6 := Lib.hid (own_grown HQ9.out.nums hb (Nat.le_refl _))
        clear hb hlt9 a0 a1 b0 b1 b2 g0 g1 g2
        obtain ⟨⟨a0, a1⟩, b0, b1, b2, g0, g1, g2⟩ := HK.out w6 HB6.out
        by_cases hbad : q.bad = true
        · rw [hbad] at c4
          have HNO := Lib.hid (show RR = none from by
            rw [HRR.out]
            cases hr : readL back c S with
            | none => rfl
            | some p =>
              exfalso
              have h1 := HFIN.out p.1 p.2 hr
              rw [h1] at hbad; cases hbad)
          clear hbad
          go_wp2_with fail
          rw [HNO.out]
          simp [bodyPost, results, Tryz.results27, go_sem, b0, b1, b2, hz6]
          exact ⟨rfl, (((HBW.out.setCell (by show w.heap.size ≤ w.heap.size + 1; omega) _).setCell (by show w.heap.size ≤ w.heap.size + 1; omega) _).setCell (by show w.heap.size ≤ w.heap.size + 1; omega) _).alloc (by simp only [World.size_setCell]; omega) _⟩
        · have hb0 : q.bad = false := by simpa using hbad
          rw [hb0] at c4
          clear hbad
          by_cases hx : q.s.S = []
          · have hxe : xb = { data := #[] } := by rw [HXB.out, hx]
            rw [hxe] at c0
            clear hx hb0
            by_cases he : E = 0
            · have he0 : encE R = 0 := by rw [← HER.out]; exact he
              obtain ⟨B, hRB, hBl⟩ := encE_zero he0
              have hXc : X = ci := by rw [HX.out, HCI.out]; exact if_pos he0
              have hYb : yb = ⟨B.toArray⟩ := by rw [HYB.out, show encB R = (⟨(R.getD []).toArray⟩ : ByteArray) from if_pos he0, hRB]; rfl
              subst hXc
              have he1 : (E == 0) = true := by simpa using he
              by_cases hyS : yb = sb
              · have hBS : B = S := by
                  have h1 : (⟨B.toArray⟩ : ByteArray) = ⟨S.toArray⟩ := by rw [← hYb, hyS, HSB.out]
                  have h2 := congrArg bytes h1
                  simpa [bytes] using h2
                have HYES := Lib.hid (show RR = some (q.s.T, q.s.N) from by
                  rw [HRR.out, ← hBS]
                  exact read_of_written (by rw [← HR.out, hRB]))
                subst hyS
                clear hRB hBl hYb hBS he0
                go_wp2_with fail
                rw [HYES.out]
                simp [bodyPost, results, Tryz.results27, go_sem, b0, b1, b2, hz6]
                exact ⟨_, _, by rw [HCI.out], own_base (own_grown (own_three HT6.out _ (by omega) _ _ _) ((Below.refl _ _).alloc (Nat.le_refl _) _) (Nat.le_refl _)) (by omega), own_base (own_grown (own_three HN6.out _ (by omega) _ _ _) ((Below.refl _ _).alloc (Nat.le_refl _) _) (Nat.le_refl _)) (by omega), (((HBW.out.setCell (by show w.heap.size ≤ w.heap.size + 1; omega) _).setCell (by show w.heap.size ≤ w.heap.size + 1; omega) _).setCell (by show w.heap.size ≤ w.heap.size + 1; omega) _).alloc (by simp only [World.size_setCell]; omega) _⟩
              · have hyb2 : ¬ (⟨B.toArray⟩ : ByteArray) = sb := by rw [← hYb]; exact hyS
                have HNO := Lib.hid (show RR = none from by
                  rw [HRR.out]
                  cases hr : readL back c S with
                  | none => rfl
                  | some p =>
                    exfalso
                    have h1 := HFIN.out p.1 p.2 hr
                    have h2 := written_of_read hr
                    have h3 : R = some S := by rw [HR.out, h1]; exact h2
                    rw [hRB] at h3
                    exact hyb2 (by rw [Option.some.inj h3, HSB.out]))
                have hne : (yb.toList == sb.toList) = false := by
                  rw [Lib.toList_data, Lib.toList_data, beq_eq_false_iff_ne]
                  exact fun e => hyS (ByteArray.ext (Array.toList_inj.1 e))
                clear hRB hBl hYb he0 hyb2
                go_wp2_with fail
                rw [HNO.out]
                simp [bodyPost, results, Tryz.results27, go_sem, b0, b1, b2, hz6]
                exact ⟨rfl, (((HBW.out.setCell (by show w.heap.size ≤ w.heap.size + 1; omega) _).setCell (by show w.heap.size ≤ w.heap.size + 1; omega) _).setCell (by show w.heap.size ≤ w.heap.size + 1; omega) _).alloc (by simp only [World.size_setCell]; omega) _⟩
            · have he1 : (E != 0) = true := by simpa using he
              have HNO := Lib.hid (show RR = none from by
                rw [HRR.out]
                cases hr : readL back c S with
                | none => rfl
                | some p =>
                  exfalso
                  have h1 := HFIN.out p.1 p.2 hr
                  have h2 := written_of_read hr
                  have h3 : R = some S := by rw [HR.out, h1]; exact h2
                  exact he (by rw [HER.out, h3]; exact if_neg (by have := HL.out; omega)))
              clear he
              go_wp2_with fail
              rw [HNO.out]
              simp [bodyPost, results, Tryz.results27, go_sem, b0, b1, b2, hz6]
              exact ⟨rfl, (((HBW.out.setCell (by show w.heap.size ≤ w.heap.size + 1; omega) _).setCell (by show w.heap.size ≤ w.heap.size + 1; omega) _).setCell (by show w.heap.size ≤ w.heap.size + 1; omega) _).alloc (by simp only [World.size_setCell]; omega) _⟩
          · have hxe : xb.toList.isEmpty = false := by
              rw [Lib.toList_data, HXB.out]
              cases hx9 : q.s.S with
              | nil => exact absurd hx9 hx
              | cons _ _ => rfl
            have HNO := Lib.hid (show RR = none from by
              rw [HRR.out]
              cases hr : readL back c S with
              | none => rfl
              | some p =>
                exfalso
                have h1 := HFIN.out p.1 p.2 hr
                exact hx (by rw [h1]))
            clear hx hb0
            go_wp2_with fail
            rw [HNO.out]
            simp [bodyPost, results, Tryz.results27, go_sem, b0, b1, b2, hz6]
            exact ⟨rfl, (((HBW.out.setCell (by show w.heap.size ≤ w.heap.size + 1; omega) _).setCell (by show w.heap.size ≤ w.heap.size + 1; omega) _).setCell (by show w.heap.size ≤ w.heap.size + 1; omega) _).alloc (by simp only [World.size_setCell]; omega) _⟩
end Go.Proofs.YtmofnkinclckoaaGreatDoor
