/- Two messages, two frames: the walk of MsgApart. -/
import Derived.Test.YtfdffiphlpeegaaMSame
import Derived.Test.YtfdffiphlpeegaaMRQ
import Derived.Deep.Cut
namespace Go.Proofs.Ytfdffiphlpeegaa
open Go.RowKit Go.Lib Go.WideShapes

def encX (c : UInt8) (r : Option Bs) : Int := if encE r = 0 then (c.toNat : Nat) else 0
def encB (r : Option Bs) : ByteArray := if encE r = 0 then ⟨(r.getD []).toArray⟩ else { data := #[] }
theorem encV_form (c : UInt8) (r : Option Bs) : encV c r = .tuple #[.agg #[.int .u8 (encX c r), .string (encB r)], .int .i64 (encE r)] := by
  unfold encV encX encB
  by_cases h : encE r = 0
  · rw [if_pos h, if_pos h, if_pos h]
  · rw [if_neg h, if_neg h, if_neg h]
theorem encE_zero {r : Option Bs} (h : encE r = 0) : ∃ B, r = some B ∧ B.length ≤ 10000 := by
  cases r with
  | none => cases h
  | some B =>
    refine ⟨B, rfl, ?_⟩
    by_cases hb : 10000 < B.length
    · have h3 : encE (some B) = 3 := if_pos hb
      rw [h3] at h; cases h
    · omega

/-- Frames of two messages are one just if the messages are. -/
theorem apart_math {back : Bool} {c1 c2 : UInt8} {T1 T2 : List Bs} {N1 N2 : List Int} (h1 : encE (written back c1 T1 N1) = 0) (h2 : encE (written back c2 T2 N2) = 0) :
    (encX c1 (written back c1 T1 N1) == encX c2 (written back c2 T2 N2) && (encB (written back c1 T1 N1)).toList == (encB (written back c2 T2 N2)).toList) = sameB c1 T1 N1 c2 T2 N2 := by
  obtain ⟨B1, e1, _⟩ := encE_zero h1
  obtain ⟨B2, e2, _⟩ := encE_zero h2
  unfold encX encB
  rw [if_pos h1, if_pos h2, if_pos h1, if_pos h2]
  by_cases h : sameB c1 T1 N1 c2 T2 N2 = true
  · obtain ⟨rfl, rfl, rfl⟩ := of_decide_eq_true h
    rw [h]; simp
  · rw [Bool.not_eq_true] at h
    rw [h, Bool.and_eq_false_iff]
    by_cases hc : c1 = c2
    · subst hc
      right
      apply beq_eq_false_iff_ne.2
      intro e
      have e := toList_inj e
      rw [e1, e2] at e
      have eB : B1 = B2 := by simpa using e
      subst eB
      obtain ⟨hT, hN⟩ := written_inj e1 e2
      exact absurd (show sameB c1 T1 N1 c1 T2 N2 = true from decide_eq_true ⟨rfl, hT, hN⟩) (by rw [h]; simp)
    · left
      apply beq_eq_false_iff_ne.2
      intro e
      exact hc (UInt8.toNat_inj.1 (Int.ofNat.inj e))

set_option maxRecDepth 100000 in
set_option maxHeartbeats 16000000 in
theorem apart_walk (w : World) (back : Bool) (c1 c2 : UInt8) (T1 T2 : List Bs) (N1 N2 : List Int) (tv1 nv1 tv2 nv2 : Value) (hT1 : TextsIn w tv1 T1) (hN1 : NumsIn w nv1 N1) (hT2 : TextsIn w tv2 T2) (hN2 : NumsIn w nv2 N2) (hz1 : ∀ t ∈ T1, t.length ≤ 140737488351232) (hz2 : ∀ t ∈ T2, t.length ≤ 140737488351232) :
    Calls Try.prog 4 #[.bool back, .agg #[.int .u8 (c1.toNat : Nat), tv1, nv1], .agg #[.int .u8 (c2.toNat : Nat), tv2, nv2]] w fun e w' => e = .returned (.bool true) ∧ Below w.heap.size w w' := by
  have H1 := Lib.hid hT1; have H2 := Lib.hid hN1; have H3 := Lib.hid hT2; have H4 := Lib.hid hN2
  have Z1 := Lib.hid hz1; have Z2 := Lib.hid hz2
  obtain ⟨a1, n1, s1, rfl, _⟩ := hT1
  obtain ⟨a2, n2, s2, rfl, _⟩ := hT2
  obtain ⟨b1, m1, r1, rfl, _⟩ := hN1
  obtain ⟨b2, m2, r2, rfl, _⟩ := hN2
  obtain ⟨W0, hW0⟩ : ∃ x, x = ((w.alloc (.cells #[.int .u8 (c1.toNat : Nat), .slice a1 n1 s1, .slice b1 m1 r1] 25)).alloc (.cells #[.int .u8 (c2.toNat : Nat), .slice a2 n2 s2, .slice b2 m2 r2] 25)) := ⟨_, rfl⟩
  have hsz : W0.heap.size = w.heap.size + 1 + 1 := by rw [hW0]; simp
  have HB := Lib.hid (show Below w.heap.size w W0 by rw [hW0]; exact ((Below.refl _ _).alloc (Nat.le_refl _) _).alloc (by simp) _)
  have HC := Lib.hid (show ∀ W, Below W0.heap.size W0 W → (W.cell? ⟨w.heap.size, 0, none⟩ = some (.int .u8 (c1.toNat : Nat)) ∧ W.cell? ⟨w.heap.size, 1, none⟩ = some (.slice a1 n1 s1) ∧ W.cell? ⟨w.heap.size, 2, none⟩ = some (.slice b1 m1 r1)) ∧ (W.cell? ⟨w.heap.size + 1, 0, none⟩ = some (.int .u8 (c2.toNat : Nat)) ∧ W.cell? ⟨w.heap.size + 1, 1, none⟩ = some (.slice a2 n2 s2) ∧ W.cell? ⟨w.heap.size + 1, 2, none⟩ = some (.slice b2 m2 r2)) from by
    intro W hW
    have k : ∀ q i, q < W0.heap.size → W.cell? ⟨q, i, none⟩ = W0.cell? ⟨q, i, none⟩ := fun q i h => hW.cell (p := ⟨q, i, none⟩) h
    refine ⟨⟨(k _ _ (by omega)).trans ?_, (k _ _ (by omega)).trans ?_, (k _ _ (by omega)).trans ?_⟩, ⟨(k _ _ (by omega)).trans ?_, (k _ _ (by omega)).trans ?_, (k _ _ (by omega)).trans ?_⟩⟩ <;> (rw [hW0]; simp [go_sem]))
  have HE := Lib.hid hW0
  have HSZ := Lib.hid hsz
  obtain ⟨R1, hR1⟩ : ∃ R, R = written back c1 T1 N1 := ⟨_, rfl⟩
  obtain ⟨R2, hR2⟩ : ∃ R, R = written back c2 T2 N2 := ⟨_, rfl⟩
  have HR1 := Lib.hid hR1; have HR2 := Lib.hid hR2
  clear hW0 hsz hz1 hz2 hR1 hR2
  have z0 : W0.heap.size ≤ W0.heap.size := Nat.le_refl _
  go_enter Try.func4, Try.ntmps4
  go_wp2_with fail
  rw [← HE.out]
  refine (shown_any _).mono ?_; rintro e w1 ⟨rfl, hb⟩
  have B1 := Lib.hid hb
  have P1 := Lib.hid (HB.out.step hb HB.out.size)
  obtain ⟨⟨k0, k1, k2⟩, l0, l1, l2⟩ := HC.out w1 B1.out
  clear hb
  go_wp2_with fail
  refine (few_any w1 c1 T1 N1 _ _ (H1.out.mono P1.out) (H2.out.mono P1.out) Z1.out).mono ?_; rintro e w2 ⟨rfl, hb⟩
  have B2 := Lib.hid (B1.out.step hb B1.out.size)
  have P2 := Lib.hid (P1.out.step hb P1.out.size)
  clear hb k0 k1 k2 l0 l1 l2
  obtain ⟨⟨k0, k1, k2⟩, l0, l1, l2⟩ := HC.out w2 B2.out
  go_wp2_with fail
  refine (few_any w2 c2 T2 N2 _ _ (H3.out.mono P2.out) (H4.out.mono P2.out) Z2.out).mono ?_; rintro e w3 ⟨rfl, hb⟩
  have B3 := Lib.hid (B2.out.step hb B2.out.size)
  have P3 := Lib.hid (P2.out.step hb P2.out.size)
  clear hb k0 k1 k2 l0 l1 l2
  obtain ⟨⟨k0, k1, k2⟩, l0, l1, l2⟩ := HC.out w3 B3.out
  by_cases hf1 : fewB T1 N1 = false
  · rw [hf1]
    generalize fewB T2 N2 = fb
    clear hf1
    cases fb <;> (go_wp2_with fail; go_ret; exact ⟨rfl, P3.out⟩)
  by_cases hf2 : fewB T2 N2 = false
  · rw [hf2]
    generalize fewB T1 N1 = fb
    clear hf1 hf2
    cases fb <;> (go_wp2_with fail; go_ret; exact ⟨rfl, P3.out⟩)
  have e1 : fewB T1 N1 = true := by simpa using hf1
  have e2 : fewB T2 N2 = true := by simpa using hf2
  have F1 := Lib.hid (room_few (of_decide_eq_true e1))
  have F2 := Lib.hid (room_few (of_decide_eq_true e2))
  rw [e1, e2]
  clear hf1 hf2 e1 e2
  go_wp2_with fail
  refine (encode_any w3 back c1 T1 N1 _ _ (H1.out.mono P3.out) (H2.out.mono P3.out) F1.out).mono ?_; rintro e w4 ⟨rfl, hb⟩
  rw [← HR1.out, encV_form]
  have B4 := Lib.hid (B3.out.step hb B3.out.size)
  have P4 := Lib.hid (P3.out.step hb P3.out.size)
  clear hb k0 k1 k2 l0 l1 l2
  obtain ⟨X1, hX1⟩ : ∃ x, x = encX c1 R1 := ⟨_, rfl⟩
  obtain ⟨Y1, hY1⟩ : ∃ x, x = encB R1 := ⟨_, rfl⟩
  obtain ⟨E1, hE1⟩ : ∃ x, x = encE R1 := ⟨_, rfl⟩
  rw [← hX1, ← hY1, ← hE1]
  have HX1 := Lib.hid hX1; have HY1 := Lib.hid hY1; have HE1 := Lib.hid hE1
  clear hX1 hY1 hE1
  have B5 := Lib.hid (B4.out.alloc B4.out.size (.cells #[.int .u8 X1, .string Y1] 29))
  have P5 := Lib.hid (P4.out.alloc P4.out.size (.cells #[.int .u8 X1, .string Y1] 29))
  obtain ⟨⟨k0, k1, k2⟩, l0, l1, l2⟩ := HC.out _ B5.out
  go_wp2_with fail
  refine (encode_any _ back c2 T2 N2 _ _ (H3.out.mono P5.out) (H4.out.mono P5.out) F2.out).mono ?_; rintro e w6 ⟨rfl, hb⟩
  rw [← HR2.out, encV_form]
  have B6 := Lib.hid (B5.out.step hb B5.out.size)
  have P6 := Lib.hid (P5.out.step hb P5.out.size)
  obtain ⟨hc1, hf1, hz1⟩ := one_box hb
  clear hb k0 k1 k2 l0 l1 l2
  obtain ⟨X2, hX2⟩ : ∃ x, x = encX c2 R2 := ⟨_, rfl⟩
  obtain ⟨Y2, hY2⟩ : ∃ x, x = encB R2 := ⟨_, rfl⟩
  obtain ⟨E2, hE2⟩ : ∃ x, x = encE R2 := ⟨_, rfl⟩
  rw [← hX2, ← hY2, ← hE2]
  have HX2 := Lib.hid hX2; have HY2 := Lib.hid hY2; have HE2 := Lib.hid hE2
  clear hX2 hY2 hE2
  have B7 := Lib.hid (B6.out.alloc B6.out.size (.cells #[.int .u8 X2, .string Y2] 29))
  have P7 := Lib.hid (P6.out.alloc P6.out.size (.cells #[.int .u8 X2, .string Y2] 29))
  have hq1 := hc1 0; have hq2 := hc1 1
  have C7 := Lib.hid (show (w6.alloc (.cells #[.int .u8 X2, .string Y2] 29)).cell? ⟨w4.heap.size, 0, none⟩ = some (.int .u8 X1) ∧ (w6.alloc (.cells #[.int .u8 X2, .string Y2] 29)).cell? ⟨w4.heap.size, 1, none⟩ = some (.string Y1) ∧ (w6.alloc (.cells #[.int .u8 X2, .string Y2] 29)).cell? ⟨w6.heap.size, 0, none⟩ = some (.int .u8 X2) ∧ (w6.alloc (.cells #[.int .u8 X2, .string Y2] 29)).cell? ⟨w6.heap.size, 1, none⟩ = some (.string Y2) from
    ⟨(World.cell?_alloc_past _ _ _ hz1).trans (hc1 0), (World.cell?_alloc_past _ _ _ hz1).trans (hc1 1), World.cell?_alloc_new _ _ _ _, World.cell?_alloc_new _ _ _ _⟩)
  clear hc1 hf1
  by_cases h1 : E1 = 0
  · by_cases h2 : E2 = 0
    · have hw1 := HR1.out; have hw2 := HR2.out
      have HFF := Lib.hid (apart_math (by rw [← HR1.out]; exact HE1.out.symm.trans h1) (by rw [← HR2.out]; exact HE2.out.symm.trans h2))
      rw [← HR1.out, ← HR2.out, ← HX1.out, ← HX2.out, ← HY1.out, ← HY2.out] at HFF
      subst h1 h2
      clear hw1 hw2 hq1 hq2
      go_upto_region 10 with (fail)
      have z6 : w6.heap.size < (w6.alloc (.cells #[.int .u8 X2, .string Y2] 29)).heap.size := by simp
      generalize w6.alloc (.cells #[.int .u8 X2, .string Y2] 29) = w7 at B7 P7 C7 z6 ⊢
      have z4 : w4.heap.size < w7.heap.size := Nat.lt_trans hz1 z6
      have HSS := Lib.hid (show ∀ W, Below w7.heap.size w7 W → (((W.cell? ⟨w.heap.size, 0, none⟩ = some (.int .u8 (c1.toNat : Nat)) ∧ W.cell? ⟨w.heap.size, 1, none⟩ = some (.slice a1 n1 s1) ∧ W.cell? ⟨w.heap.size, 2, none⟩ = some (.slice b1 m1 r1)) ∧ (W.cell? ⟨w.heap.size + 1, 0, none⟩ = some (.int .u8 (c2.toNat : Nat)) ∧ W.cell? ⟨w.heap.size + 1, 1, none⟩ = some (.slice a2 n2 s2) ∧ W.cell? ⟨w.heap.size + 1, 2, none⟩ = some (.slice b2 m2 r2))) ∧ (W.cell? ⟨w4.heap.size, 0, none⟩ = some (.int .u8 X1) ∧ W.cell? ⟨w4.heap.size, 1, none⟩ = some (.string Y1) ∧ W.cell? ⟨w6.heap.size, 0, none⟩ = some (.int .u8 X2) ∧ W.cell? ⟨w6.heap.size, 1, none⟩ = some (.string Y2))) ∧ Below w7.heap.size w7 W from by
        intro W hW
        have k : ∀ q i, q < w7.heap.size → W.cell? ⟨q, i, none⟩ = w7.cell? ⟨q, i, none⟩ := fun q i h => hW.cell (p := ⟨q, i, none⟩) h
        have c7 := C7.out
        exact ⟨⟨HC.out W (B7.out.step hW B7.out.size), (k _ _ z4).trans c7.1, (k _ _ z4).trans c7.2.1, (k _ _ z6).trans c7.2.2.1, (k _ _ z6).trans c7.2.2.2⟩, hW⟩)
      have HSA := Lib.hid (show ∀ W, Below w7.heap.size w7 W → Calls Try.prog 16 #[.agg #[.int .u8 (c1.toNat : Nat), .slice a1 n1 s1, .slice b1 m1 r1], .agg #[.int .u8 (c2.toNat : Nat), .slice a2 n2 s2, .slice b2 m2 r2]] W fun e w' => e = .returned (.bool (sameB c1 T1 N1 c2 T2 N2)) ∧ Below W.heap.size W w' from fun W hW => by
        have hP := P7.out.step hW P7.out.size
        exact same_any W c1 c2 T1 T2 N1 N2 _ _ _ _ (H1.out.mono hP) (H2.out.mono hP) (H3.out.mono hP) (H4.out.mono hP))
      have HSTEP := Lib.hid (show ∀ W W', Below w7.heap.size w7 W → Below W.heap.size W W' → (((W'.cell? ⟨w.heap.size, 0, none⟩ = some (.int .u8 (c1.toNat : Nat)) ∧ W'.cell? ⟨w.heap.size, 1, none⟩ = some (.slice a1 n1 s1) ∧ W'.cell? ⟨w.heap.size, 2, none⟩ = some (.slice b1 m1 r1)) ∧ (W'.cell? ⟨w.heap.size + 1, 0, none⟩ = some (.int .u8 (c2.toNat : Nat)) ∧ W'.cell? ⟨w.heap.size + 1, 1, none⟩ = some (.slice a2 n2 s2) ∧ W'.cell? ⟨w.heap.size + 1, 2, none⟩ = some (.slice b2 m2 r2))) ∧ (W'.cell? ⟨w4.heap.size, 0, none⟩ = some (.int .u8 X1) ∧ W'.cell? ⟨w4.heap.size, 1, none⟩ = some (.string Y1) ∧ W'.cell? ⟨w6.heap.size, 0, none⟩ = some (.int .u8 X2) ∧ W'.cell? ⟨w6.heap.size, 1, none⟩ = some (.string Y2))) ∧ Below w7.heap.size w7 W' from fun W W' h hb => HSS.out W' (h.step hb h.size))
      have S0 := HSS.out w7 (Below.refl _ _)
      clear hz1 z6 z4
      by_cases hX : X1 = X2
      · by_cases hY : Y1 = Y2
        · subst hX hY
          have hS : sameB c1 T1 N1 c2 T2 N2 = true := by rw [← HFF.out]; simp
          rw [hS] at HSA
          clear hS HFF
          go_region_held3 (fun W => (((W.cell? ⟨w.heap.size, 0, none⟩ = some (.int .u8 (c1.toNat : Nat)) ∧ W.cell? ⟨w.heap.size, 1, none⟩ = some (.slice a1 n1 s1) ∧ W.cell? ⟨w.heap.size, 2, none⟩ = some (.slice b1 m1 r1)) ∧ (W.cell? ⟨w.heap.size + 1, 0, none⟩ = some (.int .u8 (c2.toNat : Nat)) ∧ W.cell? ⟨w.heap.size + 1, 1, none⟩ = some (.slice a2 n2 s2) ∧ W.cell? ⟨w.heap.size + 1, 2, none⟩ = some (.slice b2 m2 r2))) ∧ (W.cell? ⟨w4.heap.size, 0, none⟩ = some (.int .u8 X1) ∧ W.cell? ⟨w4.heap.size, 1, none⟩ = some (.string Y1) ∧ W.cell? ⟨w6.heap.size, 0, none⟩ = some (.int .u8 X1) ∧ W.cell? ⟨w6.heap.size, 1, none⟩ = some (.string Y1))) ∧ Below w7.heap.size w7 W) (first | exact S3 | exact S2 | exact S1 | exact ⟨S0.1, S0.2.drew⟩)
            (first | (go_at_call 10; refine (as_any _ _ _ _ _ _ _ _).mono ?_; rintro e w8 ⟨rfl, hb8⟩; have S1 := HSTEP.out w7.drew w8 S0.2.drew hb8) | (go_at_call 10; refine (as_any _ _ _ _ _ _ _ _).mono ?_; rintro e w9 ⟨rfl, hb9⟩; have S2 := HSTEP.out _ w9 S1.2 hb9) | (go_at_call 16; refine (HSA.out _ S2.2).mono ?_; rintro e wx ⟨rfl, hbx⟩; have S3 := HSTEP.out _ wx S2.2 hbx))
          go_wp2_with fail
          go_ret
          exact ⟨rfl, P7.out.step S3.2 P7.out.size⟩
        · subst hX
          have hyb : (Y1.toList == Y2.toList) = false := beq_eq_false_iff_ne.2 fun e => hY (toList_inj e)
          have hS : sameB c1 T1 N1 c2 T2 N2 = false := by rw [← HFF.out, hyb]; simp
          rw [hS] at HSA
          clear hS HFF
          go_region_held3 (fun W => (((W.cell? ⟨w.heap.size, 0, none⟩ = some (.int .u8 (c1.toNat : Nat)) ∧ W.cell? ⟨w.heap.size, 1, none⟩ = some (.slice a1 n1 s1) ∧ W.cell? ⟨w.heap.size, 2, none⟩ = some (.slice b1 m1 r1)) ∧ (W.cell? ⟨w.heap.size + 1, 0, none⟩ = some (.int .u8 (c2.toNat : Nat)) ∧ W.cell? ⟨w.heap.size + 1, 1, none⟩ = some (.slice a2 n2 s2) ∧ W.cell? ⟨w.heap.size + 1, 2, none⟩ = some (.slice b2 m2 r2))) ∧ (W.cell? ⟨w4.heap.size, 0, none⟩ = some (.int .u8 X1) ∧ W.cell? ⟨w4.heap.size, 1, none⟩ = some (.string Y1) ∧ W.cell? ⟨w6.heap.size, 0, none⟩ = some (.int .u8 X1) ∧ W.cell? ⟨w6.heap.size, 1, none⟩ = some (.string Y2))) ∧ Below w7.heap.size w7 W) (first | exact S3 | exact S2 | exact S1 | exact ⟨S0.1, S0.2.drew⟩)
            (first | (go_at_call 10; refine (as_any _ _ _ _ _ _ _ _).mono ?_; rintro e w8 ⟨rfl, hb8⟩; have S1 := HSTEP.out w7.drew w8 S0.2.drew hb8) | (go_at_call 10; refine (as_any _ _ _ _ _ _ _ _).mono ?_; rintro e w9 ⟨rfl, hb9⟩; have S2 := HSTEP.out _ w9 S1.2 hb9) | (go_at_call 16; refine (HSA.out _ S2.2).mono ?_; rintro e wx ⟨rfl, hbx⟩; have S3 := HSTEP.out _ wx S2.2 hbx))
          go_wp2_with fail
          go_ret
          exact ⟨rfl, P7.out.step S3.2 P7.out.size⟩
      · have hxb : (X1 == X2) = false := beq_eq_false_iff_ne.2 hX
        have hS : sameB c1 T1 N1 c2 T2 N2 = false := by rw [← HFF.out, hxb]; rfl
        rw [hS] at HSA
        clear hS HFF
        go_region_held3 (fun W => (((W.cell? ⟨w.heap.size, 0, none⟩ = some (.int .u8 (c1.toNat : Nat)) ∧ W.cell? ⟨w.heap.size, 1, none⟩ = some (.slice a1 n1 s1) ∧ W.cell? ⟨w.heap.size, 2, none⟩ = some (.slice b1 m1 r1)) ∧ (W.cell? ⟨w.heap.size + 1, 0, none⟩ = some (.int .u8 (c2.toNat : Nat)) ∧ W.cell? ⟨w.heap.size + 1, 1, none⟩ = some (.slice a2 n2 s2) ∧ W.cell? ⟨w.heap.size + 1, 2, none⟩ = some (.slice b2 m2 r2))) ∧ (W.cell? ⟨w4.heap.size, 0, none⟩ = some (.int .u8 X1) ∧ W.cell? ⟨w4.heap.size, 1, none⟩ = some (.string Y1) ∧ W.cell? ⟨w6.heap.size, 0, none⟩ = some (.int .u8 X2) ∧ W.cell? ⟨w6.heap.size, 1, none⟩ = some (.string Y2))) ∧ Below w7.heap.size w7 W) (first | exact S3 | exact S2 | exact S1 | exact ⟨S0.1, S0.2.drew⟩)
          (first | (go_at_call 10; refine (as_any _ _ _ _ _ _ _ _).mono ?_; rintro e w8 ⟨rfl, hb8⟩; have S1 := HSTEP.out w7.drew w8 S0.2.drew hb8) | (go_at_call 10; refine (as_any _ _ _ _ _ _ _ _).mono ?_; rintro e w9 ⟨rfl, hb9⟩; have S2 := HSTEP.out _ w9 S1.2 hb9) | (go_at_call 16; refine (HSA.out _ S2.2).mono ?_; rintro e wx ⟨rfl, hbx⟩; have S3 := HSTEP.out _ wx S2.2 hbx))
        go_wp2_with fail
        go_ret
        exact ⟨rfl, P7.out.step S3.2 P7.out.size⟩
    · have hx : X2 = 0 := by rw [HX2.out]; unfold encX; rw [if_neg (by rw [← HE2.out]; exact h2)]
      have hy : Y2 = { data := #[] } := by rw [HY2.out]; unfold encB; rw [if_neg (by rw [← HE2.out]; exact h2)]
      have hb2 : (E2 != 0) = true := bne_iff_ne.2 h2
      have hb3 : (E2 == 0) = false := beq_eq_false_iff_ne.2 h2
      subst h1 hx hy
      clear h2
      go_wp2_with fail
      go_ret
      exact ⟨rfl, P7.out⟩
  · have hx : X1 = 0 := by rw [HX1.out]; unfold encX; rw [if_neg (by rw [← HE1.out]; exact h1)]
    have hy : Y1 = { data := #[] } := by rw [HY1.out]; unfold encB; rw [if_neg (by rw [← HE1.out]; exact h1)]
    have hb0 : (E1 != 0) = true := bne_iff_ne.2 h1
    have hb1 : (E1 == 0) = false := beq_eq_false_iff_ne.2 h1
    clear h1
    by_cases h2 : E2 = 0
    · subst h2 hx hy
      go_wp2_with fail
      go_ret
      exact ⟨rfl, P7.out⟩
    · have hx2 : X2 = 0 := by rw [HX2.out]; unfold encX; rw [if_neg (by rw [← HE2.out]; exact h2)]
      have hy2 : Y2 = { data := #[] } := by rw [HY2.out]; unfold encB; rw [if_neg (by rw [← HE2.out]; exact h2)]
      have hb2 : (E2 != 0) = true := bne_iff_ne.2 h2
      have hb3 : (E2 == 0) = false := beq_eq_false_iff_ne.2 h2
      subst hx hy hx2 hy2
      clear h2
      go_wp2_with fail
      go_ret
      exact ⟨rfl, P7.out⟩
end Go.Proofs.Ytfdffiphlpeegaa
