/- Any direction, any message, any frame: MsgBack answers true, and leaves what was there as it was. -/
import Derived.Test.YtfdffiphlpeegaaDoorDCard
import Derived.Test.YtfdffiphlpeegaaDoorDSum
import Derived.Test.YtfdffiphlpeegaaDoorDEncX
namespace Go.Proofs.YtfdffiphlpeegaaDoor
open Go.RowKit Go.Lib Go.WideShapes Go.ChangeShapes Go.ChangeAt Go.Joins

set_option maxRecDepth 100000 in
set_option maxHeartbeats 16000000 in
theorem back_walk (w : World) (back : Bool) (c1 c2 : UInt8) (T1 : List Bs) (N1 : List Int) (tv1 nv1 : Value) (sb : ByteArray) (hT1 : TextsIn w tv1 T1) (hN1 : NumsIn w nv1 N1) (hz1 : ∀ t ∈ T1, t.length ≤ 140737488351232) :
    Calls Tryd.prog 4 #[.bool back, .agg #[.int .u8 (c1.toNat : Nat), tv1, nv1], .agg #[.int .u8 (c2.toNat : Nat), .string sb]] w fun e w' => e = .returned (.bool true) ∧ Below w.heap.size w w' := by
  have H1 := Lib.hid hT1; have H2 := Lib.hid hN1
  have Z1 := Lib.hid hz1
  obtain ⟨a1, n1, s1, rfl, -⟩ := hT1
  obtain ⟨b1, m1, r1, rfl, -⟩ := hN1
  obtain ⟨W0, hW0⟩ : ∃ x, x = ((w.alloc (.cells #[.int .u8 (c1.toNat : Nat), .slice a1 n1 s1, .slice b1 m1 r1] 28)).alloc (.cells #[.int .u8 (c2.toNat : Nat), .string sb] 23)) := ⟨_, rfl⟩
  have hsz : W0.heap.size = w.heap.size + 1 + 1 := by rw [hW0]; simp
  have HB := Lib.hid (show Below w.heap.size w W0 by rw [hW0]; exact ((Below.refl _ _).alloc (Nat.le_refl _) _).alloc (by simp) _)
  have HC := Lib.hid (show ∀ W, Below W0.heap.size W0 W → W.cell? ⟨w.heap.size, 0, none⟩ = some (.int .u8 (c1.toNat : Nat)) ∧ W.cell? ⟨w.heap.size, 1, none⟩ = some (.slice a1 n1 s1) ∧ W.cell? ⟨w.heap.size, 2, none⟩ = some (.slice b1 m1 r1) ∧ W.cell? ⟨w.heap.size + 1, 0, none⟩ = some (.int .u8 (c2.toNat : Nat)) ∧ W.cell? ⟨w.heap.size + 1, 1, none⟩ = some (.string sb) from by
    intro W hW
    have k : ∀ q i, q < W0.heap.size → W.cell? ⟨q, i, none⟩ = W0.cell? ⟨q, i, none⟩ := fun q i h => hW.cell (p := ⟨q, i, none⟩) h
    refine ⟨(k _ _ (by omega)).trans ?_, (k _ _ (by omega)).trans ?_, (k _ _ (by omega)).trans ?_, (k _ _ (by omega)).trans ?_, (k _ _ (by omega)).trans ?_⟩ <;> (rw [hW0]; simp [go_sem]))
  have HE := Lib.hid hW0
  obtain ⟨R1, hR1⟩ : ∃ R, R = written back c1 T1 N1 := ⟨_, rfl⟩
  have HR1 := Lib.hid hR1
  clear hW0 hsz hz1 hR1
  go_enter Tryd.func4, Tryd.ntmps4
  go_wp2_with fail
  rw [← HE.out]
  refine (shown_any _).mono ?_; rintro e w1 ⟨rfl, hb⟩
  have B1 := Lib.hid hb
  have P1 := Lib.hid (HB.out.step hb HB.out.size)
  obtain ⟨k0, k1, k2, l0, l1⟩ := HC.out w1 B1.out
  clear hb
  go_wp2_with fail
  refine (few_any w1 c1 T1 N1 _ _ (H1.out.mono P1.out) (H2.out.mono P1.out) Z1.out).mono ?_; rintro e w2 ⟨rfl, hb⟩
  have B2 := Lib.hid (B1.out.step hb B1.out.size)
  have P2 := Lib.hid (P1.out.step hb P1.out.size)
  clear hb k0 k1 k2 l0 l1
  obtain ⟨k0, k1, k2, l0, l1⟩ := HC.out w2 B2.out
  by_cases hf1 : fewB T1 N1 = false
  · rw [hf1]
    go_wp2_with fail
    go_ret
    exact ⟨rfl, P2.out⟩
  have e1 : fewB T1 N1 = true := by simpa using hf1
  have F1 := Lib.hid (room_few (of_decide_eq_true e1))
  rw [e1]
  clear hf1 e1
  by_cases hbig : 3000 < sb.size
  · have hbig' : (3000 : Int) < sb.size := by omega
    go_wp2_with fail
    go_ret
    exact ⟨rfl, P2.out⟩
  have hbig' : ¬ (3000 : Int) < sb.size := by omega
  obtain ⟨S2, hS2⟩ : ∃ S2 : Bs, S2 = bytes sb := ⟨_, rfl⟩
  have HSB := Lib.hid (show (⟨S2.toArray⟩ : ByteArray) = sb by rw [hS2])
  have HS2 := Lib.hid (show S2.length ≤ 3000 by rw [hS2, blen]; omega)
  have HDE := Lib.hid (fun W => decode_any W back c2 S2 (by have := HS2.out; omega))
  rw [HSB.out] at HDE
  clear hS2 hbig
  go_wp2_with fail
  refine (encode_any w2 back c1 T1 N1 _ _ (H1.out.mono P2.out) (H2.out.mono P2.out) F1.out).mono ?_; rintro e w3 ⟨rfl, hb⟩
  rw [← HR1.out, encV_form]
  have B3 := Lib.hid (B2.out.step hb B2.out.size)
  have P3 := Lib.hid (P2.out.step hb P2.out.size)
  clear hb k0 k1 k2 l0 l1
  by_cases h1 : encE R1 = 0
  · obtain ⟨Bd, hBd, hBl⟩ := encE_zero h1
    have HRD := Lib.hid (show readD back c1 Bd = some (T1, N1) by
      unfold readD
      rw [if_neg (by omega)]
      exact read_of_written (by rw [← HR1.out]; exact hBd))
    rw [h1, show encX c1 R1 = (c1.toNat : Nat) from if_pos h1, show encB R1 = (⟨Bd.toArray⟩ : ByteArray) from by rw [show encB R1 = (⟨(R1.getD []).toArray⟩ : ByteArray) from if_pos h1, hBd]; rfl]
    have HBl := Lib.hid hBl
    obtain ⟨yb, hyb⟩ : ∃ yb : ByteArray, yb = ⟨Bd.toArray⟩ := ⟨_, rfl⟩
    have HD1 := Lib.hid (fun W => decode_any W back c1 Bd (by have := HBl.out; omega))
    rw [HRD.out, ← hyb] at HD1
    rw [← hyb]
    clear h1 hBd hBl hyb
    have B4 := Lib.hid (B3.out.alloc B3.out.size (.cells #[.int .u8 (c1.toNat : Nat), .string yb] 23))
    have P4 := Lib.hid (P3.out.alloc P3.out.size (.cells #[.int .u8 (c1.toNat : Nat), .string yb] 23))
    have z4 : w3.heap.size < (w3.alloc (.cells #[.int .u8 (c1.toNat : Nat), .string yb] 23)).heap.size := by simp
    have C4 := Lib.hid (show (w3.alloc (.cells #[.int .u8 (c1.toNat : Nat), .string yb] 23)).cell? ⟨w3.heap.size, 0, none⟩ = some (.int .u8 (c1.toNat : Nat)) ∧ (w3.alloc (.cells #[.int .u8 (c1.toNat : Nat), .string yb] 23)).cell? ⟨w3.heap.size, 1, none⟩ = some (.string yb) from ⟨World.cell?_alloc_new _ _ _ _, World.cell?_alloc_new _ _ _ _⟩)
    go_upto_region 6 with (fail)
    generalize w3.alloc (.cells #[.int .u8 (c1.toNat : Nat), .string yb] 23) = w4 at B4 P4 C4 z4 ⊢
    have d0 := C4.out.1
    have d1 := C4.out.2
    go_wp2_with fail
    refine (HD1.out w4).mono ?_
    rintro e w5 ⟨tv, nv, rfl, hT, hN, hb⟩
    have B5 := Lib.hid (B4.out.step hb B4.out.size)
    have P5 := Lib.hid (P4.out.step hb P4.out.size)
    have D5 := Lib.hid hb
    have HT5 := Lib.hid (own_textsIn hT); have HN5 := Lib.hid (own_numsIn hN)
    obtain ⟨ta, tc, rfl⟩ := ownsRow_form hT
    obtain ⟨na, nc, rfl⟩ := ownsRow_form hN
    clear hT hN hb d0 d1
    have B6 := Lib.hid (B5.out.alloc B5.out.size (.cells #[.int .u8 (c1.toNat : Nat), .slice ta T1.length tc, .slice na N1.length nc] 28))
    have P6 := Lib.hid (P5.out.alloc P5.out.size (.cells #[.int .u8 (c1.toNat : Nat), .slice ta T1.length tc, .slice na N1.length nc] 28))
    have D6 := Lib.hid (D5.out.alloc D5.out.size (.cells #[.int .u8 (c1.toNat : Nat), .slice ta T1.length tc, .slice na N1.length nc] 28))
    have HT6 := Lib.hid (HT5.out.mono ((Below.refl w5.heap.size w5).alloc (Nat.le_refl _) (.cells #[.int .u8 (c1.toNat : Nat), .slice ta T1.length tc, .slice na N1.length nc] 28)))
    have HN6 := Lib.hid (HN5.out.mono ((Below.refl w5.heap.size w5).alloc (Nat.le_refl _) (.cells #[.int .u8 (c1.toNat : Nat), .slice ta T1.length tc, .slice na N1.length nc] 28)))
    have z6 : w5.heap.size < (w5.alloc (.cells #[.int .u8 (c1.toNat : Nat), .slice ta T1.length tc, .slice na N1.length nc] 28)).heap.size := by simp
    have C6 := Lib.hid (show (w5.alloc (.cells #[.int .u8 (c1.toNat : Nat), .slice ta T1.length tc, .slice na N1.length nc] 28)).cell? ⟨w5.heap.size, 0, none⟩ = some (.int .u8 (c1.toNat : Nat)) ∧ (w5.alloc (.cells #[.int .u8 (c1.toNat : Nat), .slice ta T1.length tc, .slice na N1.length nc] 28)).cell? ⟨w5.heap.size, 1, none⟩ = some (.slice ta T1.length tc) ∧ (w5.alloc (.cells #[.int .u8 (c1.toNat : Nat), .slice ta T1.length tc, .slice na N1.length nc] 28)).cell? ⟨w5.heap.size, 2, none⟩ = some (.slice na N1.length nc) from ⟨World.cell?_alloc_new _ _ _ _, World.cell?_alloc_new _ _ _ _, World.cell?_alloc_new _ _ _ _⟩)
    go_upto_region 8 with (fail)
    generalize w5.alloc (.cells #[.int .u8 (c1.toNat : Nat), .slice ta T1.length tc, .slice na N1.length nc] 28) = w6 at B6 P6 D6 HT6 HN6 z6 C6 ⊢
    have zg : w3.heap.size < w6.heap.size := Nat.lt_of_lt_of_le z4 D6.out.size
    have HSS := Lib.hid (show ∀ W, Below w6.heap.size w6 W → ((W.cell? ⟨w5.heap.size, 0, none⟩ = some (.int .u8 (c1.toNat : Nat)) ∧ W.cell? ⟨w5.heap.size, 1, none⟩ = some (.slice ta T1.length tc) ∧ W.cell? ⟨w5.heap.size, 2, none⟩ = some (.slice na N1.length nc)) ∧ (W.cell? ⟨w.heap.size, 0, none⟩ = some (.int .u8 (c1.toNat : Nat)) ∧ W.cell? ⟨w.heap.size, 1, none⟩ = some (.slice a1 n1 s1) ∧ W.cell? ⟨w.heap.size, 2, none⟩ = some (.slice b1 m1 r1)) ∧ (W.cell? ⟨w3.heap.size, 0, none⟩ = some (.int .u8 (c1.toNat : Nat)) ∧ W.cell? ⟨w3.heap.size, 1, none⟩ = some (.string yb))) ∧ Below w6.heap.size w6 W from by
      intro W hW
      have k : ∀ q i, q < w6.heap.size → W.cell? ⟨q, i, none⟩ = w6.cell? ⟨q, i, none⟩ := fun q i h => hW.cell (p := ⟨q, i, none⟩) h
      have k' : ∀ i, w6.cell? ⟨w3.heap.size, i, none⟩ = w4.cell? ⟨w3.heap.size, i, none⟩ := fun i => D6.out.cell (p := ⟨w3.heap.size, i, none⟩) z4
      have hc := HC.out W (B6.out.step hW B6.out.size)
      have c6 := C6.out
      exact ⟨⟨⟨(k _ _ z6).trans c6.1, (k _ _ z6).trans c6.2.1, (k _ _ z6).trans c6.2.2⟩, ⟨hc.1, hc.2.1, hc.2.2.1⟩, (k _ _ zg).trans ((k' 0).trans C4.out.1), (k _ _ zg).trans ((k' 1).trans C4.out.2)⟩, hW⟩)
    have HSA := Lib.hid (show ∀ W, Below w6.heap.size w6 W → Calls Tryd.prog 12 #[.agg #[.int .u8 (c1.toNat : Nat), .slice ta T1.length tc, .slice na N1.length nc], .agg #[.int .u8 (c1.toNat : Nat), .slice a1 n1 s1, .slice b1 m1 r1]] W fun e w' => e = .returned (.bool true) ∧ Below W.heap.size W w' from fun W hW => by
      have hP := P6.out.step hW P6.out.size
      have := same_any W c1 c1 T1 T1 N1 N1 _ _ _ _ (HT6.out.mono hW) (HN6.out.mono hW) (H1.out.mono hP) (H2.out.mono hP)
      rw [show sameB c1 T1 N1 c1 T1 N1 = true from decide_eq_true ⟨rfl, rfl, rfl⟩] at this
      exact this)
    have HSTEP := Lib.hid (show ∀ W W', Below w6.heap.size w6 W → Below W.heap.size W W' → ((W'.cell? ⟨w5.heap.size, 0, none⟩ = some (.int .u8 (c1.toNat : Nat)) ∧ W'.cell? ⟨w5.heap.size, 1, none⟩ = some (.slice ta T1.length tc) ∧ W'.cell? ⟨w5.heap.size, 2, none⟩ = some (.slice na N1.length nc)) ∧ (W'.cell? ⟨w.heap.size, 0, none⟩ = some (.int .u8 (c1.toNat : Nat)) ∧ W'.cell? ⟨w.heap.size, 1, none⟩ = some (.slice a1 n1 s1) ∧ W'.cell? ⟨w.heap.size, 2, none⟩ = some (.slice b1 m1 r1)) ∧ (W'.cell? ⟨w3.heap.size, 0, none⟩ = some (.int .u8 (c1.toNat : Nat)) ∧ W'.cell? ⟨w3.heap.size, 1, none⟩ = some (.string yb))) ∧ Below w6.heap.size w6 W' from fun W W' h hb => HSS.out W' (h.step hb h.size))
    have S0 := HSS.out w6 (Below.refl _ _)
    clear z4 z6 zg
    go_region_held3 (fun W => ((W.cell? ⟨w5.heap.size, 0, none⟩ = some (.int .u8 (c1.toNat : Nat)) ∧ W.cell? ⟨w5.heap.size, 1, none⟩ = some (.slice ta T1.length tc) ∧ W.cell? ⟨w5.heap.size, 2, none⟩ = some (.slice na N1.length nc)) ∧ (W.cell? ⟨w.heap.size, 0, none⟩ = some (.int .u8 (c1.toNat : Nat)) ∧ W.cell? ⟨w.heap.size, 1, none⟩ = some (.slice a1 n1 s1) ∧ W.cell? ⟨w.heap.size, 2, none⟩ = some (.slice b1 m1 r1)) ∧ (W.cell? ⟨w3.heap.size, 0, none⟩ = some (.int .u8 (c1.toNat : Nat)) ∧ W.cell? ⟨w3.heap.size, 1, none⟩ = some (.string yb))) ∧ Below w6.heap.size w6 W) (first | exact S3 | exact S2 | exact S1 | exact ⟨S0.1, S0.2.drew⟩)
      (first | (go_at_call 13; refine (as_any _ _ _ _ _ _ _ _).mono ?_; rintro e w8 ⟨rfl, hb8⟩; have S1 := HSTEP.out w6.drew w8 S0.2.drew hb8) | (go_at_call 13; refine (as_any _ _ _ _ _ _ _ _).mono ?_; rintro e w9 ⟨rfl, hb9⟩; have S2 := HSTEP.out _ w9 S1.2 hb9) | (go_at_call 12; refine (HSA.out _ S2.2).mono ?_; rintro e wx ⟨rfl, hbx⟩; have S3 := HSTEP.out _ wx S2.2 hbx))
    have BX := Lib.hid (B6.out.step S3.2 B6.out.size)
    have PX := Lib.hid (P6.out.step S3.2 P6.out.size)
    clear S0 S1 S2 S3 hb8 hb9 hbx
    obtain ⟨k0, k1, k2, l0, l1⟩ := HC.out _ BX.out
    go_wp2_with fail
    refine (HDE.out _).mono ?_
    clear k0 k1 k2 l0 l1
    cases hR2 : readD back c2 S2 with
    | none =>
      rintro e w9 ⟨rfl, hb⟩
      have P9 := Lib.hid (PX.out.step hb PX.out.size)
      clear hb hR2
      go_wp2_with fail
      go_ret
      exact ⟨rfl, P9.out.alloc P9.out.size _⟩
    | some p =>
      obtain ⟨T2, N2⟩ := p
      rintro e w9 ⟨tv2, nv2, rfl, hT2, hN2, hb⟩
      have hRL : readL back c2 S2 = some (T2, N2) := by
        unfold readD at hR2
        split at hR2
        · cases hR2
        · exact hR2
      have HRM := Lib.hid (read_room hRL (by have := HS2.out; omega))
      have HWR := Lib.hid (written_of_read hRL)
      have B9 := Lib.hid (BX.out.step hb BX.out.size)
      have P9 := Lib.hid (PX.out.step hb PX.out.size)
      have HT2 := Lib.hid (own_textsIn hT2); have HN2 := Lib.hid (own_numsIn hN2)
      obtain ⟨ta2, tc2, rfl⟩ := ownsRow_form hT2
      obtain ⟨na2, nc2, rfl⟩ := ownsRow_form hN2
      clear hT2 hN2 hb hRL hR2
      obtain ⟨WA, hWA⟩ : ∃ x, x = w9.alloc (.cells #[.int .u8 (c2.toNat : Nat), .slice ta2 T2.length tc2, .slice na2 N2.length nc2] 28) := ⟨_, rfl⟩
      have BA := Lib.hid (show Below W0.heap.size W0 WA by rw [hWA]; exact B9.out.alloc B9.out.size _)
      have PA := Lib.hid (show Below w.heap.size w WA by rw [hWA]; exact P9.out.alloc P9.out.size _)
      have HTA := Lib.hid (HT2.out.mono (show Below w9.heap.size w9 WA by rw [hWA]; exact (Below.refl _ _).alloc (Nat.le_refl _) _))
      have HNA := Lib.hid (HN2.out.mono (show Below w9.heap.size w9 WA by rw [hWA]; exact (Below.refl _ _).alloc (Nat.le_refl _) _))
      have HEA := Lib.hid (encode_any WA back c2 T2 N2 _ _ HTA.out HNA.out HRM.out)
      rw [HWR.out, encV_form] at HEA
      have hE0 : encE (some S2) = 0 := if_neg (by have := HS2.out; omega)
      have hX0 : encX c2 (some S2) = (c2.toNat : Nat) := if_pos hE0
      have hY0 : encB (some S2) = sb := by rw [show encB (some S2) = (⟨S2.toArray⟩ : ByteArray) from if_pos hE0, HSB.out]
      rw [hE0, hX0, hY0] at HEA
      have HWA := Lib.hid hWA
      clear hE0 hX0 hY0 hWA
      go_wp2_with fail
      rw [← HWA.out]
      refine HEA.out.mono ?_; rintro e wb ⟨rfl, hb⟩
      have BB := Lib.hid (BA.out.step hb BA.out.size)
      have PB := Lib.hid (PA.out.step hb PA.out.size)
      have BC := Lib.hid (BB.out.alloc BB.out.size (.cells #[.int .u8 (c2.toNat : Nat), .string sb] 23))
      obtain ⟨k0, k1, k2, l0, l1⟩ := HC.out _ BC.out
      clear hb
      go_wp2_with fail
      go_ret
      exact ⟨rfl, PB.out.alloc PB.out.size _⟩
  · have hne : (encE R1 == 0) = false := beq_eq_false_iff_ne.2 h1
    generalize encX c1 R1 = X1
    generalize encB R1 = Y1
    generalize encE R1 = E1 at hne
    have B4 := Lib.hid (B3.out.alloc B3.out.size (.cells #[.int .u8 X1, .string Y1] 23))
    have P4 := Lib.hid (P3.out.alloc P3.out.size (.cells #[.int .u8 X1, .string Y1] 23))
    clear h1
    go_upto_region 6 with (fail)
    generalize w3.alloc (.cells #[.int .u8 X1, .string Y1] 23) = w4 at B4 P4 ⊢
    obtain ⟨k0, k1, k2, l0, l1⟩ := HC.out _ B4.out
    go_wp2_with fail
    refine (HDE.out _).mono ?_
    clear k0 k1 k2 l0 l1
    cases hR2 : readD back c2 S2 with
    | none =>
      rintro e w9 ⟨rfl, hb⟩
      have P9 := Lib.hid (P4.out.step hb P4.out.size)
      clear hb hR2
      go_wp2_with fail
      go_ret
      exact ⟨rfl, P9.out.alloc P9.out.size _⟩
    | some p =>
      obtain ⟨T2, N2⟩ := p
      rintro e w9 ⟨tv2, nv2, rfl, hT2, hN2, hb⟩
      have hRL : readL back c2 S2 = some (T2, N2) := by
        unfold readD at hR2
        split at hR2
        · cases hR2
        · exact hR2
      have HRM := Lib.hid (read_room hRL (by have := HS2.out; omega))
      have HWR := Lib.hid (written_of_read hRL)
      have B9 := Lib.hid (B4.out.step hb B4.out.size)
      have P9 := Lib.hid (P4.out.step hb P4.out.size)
      have HT2 := Lib.hid (own_textsIn hT2); have HN2 := Lib.hid (own_numsIn hN2)
      obtain ⟨ta2, tc2, rfl⟩ := ownsRow_form hT2
      obtain ⟨na2, nc2, rfl⟩ := ownsRow_form hN2
      clear hT2 hN2 hb hRL hR2
      obtain ⟨WA, hWA⟩ : ∃ x, x = w9.alloc (.cells #[.int .u8 (c2.toNat : Nat), .slice ta2 T2.length tc2, .slice na2 N2.length nc2] 28) := ⟨_, rfl⟩
      have BA := Lib.hid (show Below W0.heap.size W0 WA by rw [hWA]; exact B9.out.alloc B9.out.size _)
      have PA := Lib.hid (show Below w.heap.size w WA by rw [hWA]; exact P9.out.alloc P9.out.size _)
      have HTA := Lib.hid (HT2.out.mono (show Below w9.heap.size w9 WA by rw [hWA]; exact (Below.refl _ _).alloc (Nat.le_refl _) _))
      have HNA := Lib.hid (HN2.out.mono (show Below w9.heap.size w9 WA by rw [hWA]; exact (Below.refl _ _).alloc (Nat.le_refl _) _))
      have HEA := Lib.hid (encode_any WA back c2 T2 N2 _ _ HTA.out HNA.out HRM.out)
      rw [HWR.out, encV_form] at HEA
      have hE0 : encE (some S2) = 0 := if_neg (by have := HS2.out; omega)
      have hX0 : encX c2 (some S2) = (c2.toNat : Nat) := if_pos hE0
      have hY0 : encB (some S2) = sb := by rw [show encB (some S2) = (⟨S2.toArray⟩ : ByteArray) from if_pos hE0, HSB.out]
      rw [hE0, hX0, hY0] at HEA
      have HWA := Lib.hid hWA
      clear hE0 hX0 hY0 hWA
      go_wp2_with fail
      rw [← HWA.out]
      refine HEA.out.mono ?_; rintro e wb ⟨rfl, hb⟩
      have BB := Lib.hid (BA.out.step hb BA.out.size)
      have PB := Lib.hid (PA.out.step hb PA.out.size)
      have BC := Lib.hid (BB.out.alloc BB.out.size (.cells #[.int .u8 (c2.toNat : Nat), .string sb] 23))
      obtain ⟨k0, k1, k2, l0, l1⟩ := HC.out _ BC.out
      clear hb
      go_wp2_with fail
      go_ret
      exact ⟨rfl, PB.out.alloc PB.out.size _⟩

theorem cells_frame : Tryd.prog.cellsOf 23 = 2 := by kernel_rfl
theorem back_ok (w : World) (back : Bool) (c1 : UInt8) (ty : Int) (hty : 0 ≤ ty ∧ ty < 256) (T1 : List Bs) (N1 : List Int) (tv1 nv1 : Value) (sb : ByteArray) (hT1 : TextsIn w tv1 T1) (hN1 : NumsIn w nv1 N1) (hz1 : ∀ t ∈ T1, t.length ≤ 140737488351232) :
    Calls Tryd.prog 4 #[.bool back, .agg #[.int .u8 (c1.toNat : Nat), tv1, nv1], .agg #[.int .u8 ty, .string sb]] w fun e w' => e = .returned (.bool true) ∧ Below w.heap.size w w' := by
  have h : ty = ((UInt8.ofNat ty.toNat).toNat : Nat) := by rw [UInt8.toNat_ofNat', Nat.mod_eq_of_lt (by omega)]; omega
  rw [h]
  exact back_walk w back c1 _ T1 N1 tv1 nv1 sb hT1 hN1 hz1

set_option maxRecDepth 100000 in
theorem back_lifted (os : Os) (started : os.Started) (H : Type) (enc : TypeId × Value → H) :
    ReturnsInHanded {} Tryd.checked os 4 .any (fun w args => (Rows.msgBackSpec.pre enc Tryd.prog Tryd.f4 Rows.msgBackRow.domain false w args ∧ laidMetH Tryd.prog [("unicode/utf8.acceptRanges", Rows.laid_unicode_utf8_acceptRanges), ("unicode/utf8.first", Rows.laid_unicode_utf8_first)] w) ∧ sizedMet enc Tryd.prog Tryd.f4 (OpenSpec.ofChange Rows.msgBackSpec) false w args) (Rows.msgBackSpec.post enc Tryd.prog Tryd.f4 false true false false) := by
  refine handed_laid (C := Tryd.checked) (X := fun w _ => laidMetH Tryd.prog [("unicode/utf8.acceptRanges", Rows.laid_unicode_utf8_acceptRanges), ("unicode/utf8.first", Rows.laid_unicode_utf8_first)] w) (fun _ _ _ hh h => h.of_heap hh) own started (by kernel_rfl) Tryd.func4
    (ChangeSpec.witness_shaped (enc := enc) (C := Tryd.checked) (os := os) (X := fun w _ => laidMetH Tryd.prog [("unicode/utf8.acceptRanges", Rows.laid_unicode_utf8_acceptRanges), ("unicode/utf8.first", Rows.laid_unicode_utf8_first)] w) false (World.laidAll Tryd.prog os [("unicode/utf8.acceptRanges", Rows.laid_unicode_utf8_acceptRanges), ("unicode/utf8.first", Rows.laid_unicode_utf8_first)]) #[.bool false, .agg #[.int .u8 0, .slice none 0 0, .slice none 0 0], .agg #[.int .u8 0, .string { data := #[] }]] 8 (World.laidAll_os _ _ _) (World.shaped_of_ZipB (by kernel_rfl) (by kernel_rfl)) (by kernel_rfl) (by kernel_rfl) (by kernel_rfl)
      (by rw [MakeChecks.laidMetH_plain _ _ _ (by kernel_rfl)]; exact laidMet_laidAll _ (by kernel_rfl) (by kernel_rfl))) ?_
  intro W base args ds gs before hval0 hW hsz0 _ _
  have hsz : (DataW.weightsEach Tryd.prog (Tryd.f4.params.toList ++ Rows.msgBackSpec.plain.varTypes Tryd.prog) (ds ++ gs)).all (· ≤ reachBytes) = true := hsz0
  clear hsz0
  have hval : ∀ (j : Nat) t v, Tryd.f4.params[j]? = some t → args[j]? = some v → Value.okWide Tryd.prog W .any base t v := hval0
  have hW' := hW
  obtain ⟨p, q, hA0, hV, rfl, _, _⟩ := hW
  have hA : DataW.TrodAll enc Tryd.prog W 0 (fun _ => true) true Tryd.f4.params.toList args.toList ds p := hA0
  rw [Tryd.params4] at hA hval hsz
  obtain ⟨v0, v1, v2, d0, d1, d2, p0, p1, p2, rfl, rfl, rfl, h0, h1, h2⟩ := trodAll_three hA
  obtain ⟨rfl, rfl⟩ := trodVars_none hV
  obtain ⟨back, rfl, rfl, rfl⟩ := open_bool Tryd.underlying4 (hval 0 4 v0 rfl rfl) h0
  obtain ⟨c1, tv1, nv1, T1, N1, rfl, hT1, hN1, hw1, hr1⟩ := open_msg (hval 1 28 v1 rfl rfl) h1
  have hz1 : ∀ t ∈ T1, t.length ≤ 140737488351232 := fun t ht => of_decide_eq_true (List.all_eq_true.1 hsz _ (DataW.weights_mem_each (j := 1) (t := 28) rfl rfl _ (hw1 t ht)))
  obtain ⟨c2, e2, y2, z2, m2, rfl, rfl, rfl, hy2, hz2⟩ := open_agg2 Tryd.underlying23 (by kernel_rfl) cells_frame (hval 2 23 v2 rfl rfl) h2
  obtain ⟨ty, eq2, rfl, wa2⟩ := DataW.trod_int Tryd.underlying5 hy2
  obtain ⟨body, er2, rfl, ws2⟩ := DataW.trod_string Tryd.underlying9 hz2
  simp at eq2 er2; subst eq2 er2
  have h_ty := byte_range wa2
  refine (back_ok W back c1 ty h_ty T1 N1 tv1 nv1 body hT1 hN1 hz1).mono fun e W' ⟨he, hb⟩ => ?_
  subst he
  exact ⟨_, rfl, law_shut laidOut (by kernel_rfl) (by kernel_rfl) Tryd.underlying4 rfl hW' rfl hb⟩

theorem back_holds : Rows.MsgBackSaid :=
  OpenClaim.holds_of_wide 4 Tryd.f4 rfl rfl rfl rfl rfl rfl rfl ⟨rfl, rfl, rfl, rfl, rfl⟩ rfl rfl rfl rfl rfl (by kernel_rfl) Tryd.func4 (by kernel_rfl)
    (of_decide_eq_true (by kernel_rfl)) (by unfold Func.isWrapper; rw [if_neg (of_decide_eq_false (by kernel_rfl))]; exact ⟨rfl, rfl⟩)
    (fun os started H enc _ => back_lifted os started H enc)

theorem back_card : Rows.MsgBackCardSaid :=
  Claim7.holds_tied_plain_at .later [] [.data, .pinned] true _ false back_holds (fun _ h => by cases h) (by kernel_rfl) (fun _ h => by cases h) msgBack_row_tie rfl ⟨rfl, rfl⟩ (by kernel_rfl) rfl
    (fun f fn hf hfn => by
      obtain rfl : f = 4 := Option.some.inj ((show Tryd.prog.funcNamed "taxirank/taxiranklaw2.MsgBack" = some 4 by kernel_rfl).symm.trans hf) |>.symm
      obtain rfl : fn = Tryd.f4 := (Option.some.inj (Tryd.func4.symm.trans hfn)).symm
      exact ⟨by kernel_rfl, fun j t ht => by
        rw [Tryd.params4] at ht
        have hm : t ∈ [4, 28, 23] := by simpa using Array.mem_of_getElem? ht
        have hall : ([4, 28, 23].all fun u => !Tryd.prog.wantsStandIn u) = true := by kernel_rfl
        exact (show Tryd.prog.wantsStandIn t = false by simpa using List.all_eq_true.1 hall t hm)⟩)
    (by kernel_rfl)
end Go.Proofs.YtfdffiphlpeegaaDoor
