/- The walks of MsgNumbers: one of them is none. -/
import Derived.Test.YtfdffiphlpeegaaDoorMNumsB
namespace Go.Proofs.YtfdffiphlpeegaaDoor
open Go.RowKit Go.Lib Go.WideShapes Go.ChangeShapes Go.ChangeAt Go.Joins

set_option maxRecDepth 100000 in
set_option maxHeartbeats 16000000 in
theorem numbers_false_tt (w : World) (a b c : Int) (h4 : four a b = false) (hc1 : 0 ≤ c) (hc2 : c ≤ 255) :
    Calls Tryd.prog 6 #[.int .i64 a, .int .i64 b, .int .i64 c] w fun e w' => e = .returned (.bool true) ∧ Below w.heap.size w w' := by
  have h1 : one c = true := one_iff.2 ⟨hc1, hc2⟩
  have h2 : two c = true := two_iff.2 ⟨by omega, by omega⟩
  have HK := Lib.hid (fun w => enc_K_no w h4)
  have HZ := Lib.hid (fun w => enc_Z_ok w h1)
  have HB := Lib.hid (fun w => enc_B_ok w h2)
  obtain ⟨yz, hyz⟩ : ∃ yz : ByteArray, yz = ⟨(be 1 c).toArray⟩ := ⟨_, rfl⟩
  have hz1 : yz.size = 1 := by rw [hyz, bsize, be_length]
  have hz0 : 0 < yz.size := by omega
  have hz0' : (0 : Int) < yz.size := by omega
  have hzb : ((yz.size : Int) != 1) = false := by rw [hz1]; rfl
  have hzc : ((yz[0].toNat : Int) != c) = false := by
    have h3 : yz[0] = byteAt c 0 := by subst hyz; rfl
    have h5 := byteAt_toNat c 0
    rw [h3, h5]
    simp
    omega
  have hzw : (wrap64 (yz[0].toNat : Int) != c) = false := by
    have h256 : yz[0].toNat < 256 := UInt8.toNat_lt _
    rw [show wrap64 (yz[0].toNat : Int) = (yz[0].toNat : Int) by unfold wrap64; omega]
    exact hzc
  rw [← hyz] at HZ
  have HZS := Lib.hid hz1
  clear hyz hz1
  have HDB := Lib.hid (fun w => dec_B w h2)
  obtain ⟨yb, hyb⟩ : ∃ yb : ByteArray, yb = ⟨(bodyB c).toArray⟩ := ⟨_, rfl⟩
  rw [← hyb] at HB HDB
  clear hyb
  have H4 := Lib.hid h4
  clear h1 h2 h4
  go_enter Tryd.func6, Tryd.ntmps6
  go_wp2_with fail
  refine (shown_any _).mono ?_; rintro e w1 ⟨rfl, hb⟩
  have P1 := Lib.hid hb
  clear hb
  go_upto_region 4 with (fail)
  go_cut [8] (fun f wx => f = .bool false ∧ w1 = wx)
  case first =>
    have hn : ¬ ((-2147483648 ≤ a ∧ a ≤ 2147483647) ∧ (-2147483648 ≤ b ∧ b ≤ 2147483647)) := fun h => by have := four_iff.2 h; rw [H4.out] at this; cases this
    by_cases q1 : -2147483648 ≤ a
    · by_cases q2 : a ≤ 2147483647
      · by_cases q3 : -2147483648 ≤ b
        · have q4 : ¬ b ≤ 2147483647 := fun h => hn ⟨⟨q1, q2⟩, q3, h⟩
          have q5 : decide (b ≤ 2147483647) = false := decide_eq_false q4
          clear hn
          go_wp2_with fail
          go_meet
          exact ⟨rfl, rfl⟩
        · have q5 : decide (-2147483648 ≤ b) = false := decide_eq_false q3
          clear hn
          go_wp2_with fail
          go_meet
          exact ⟨rfl, rfl⟩
      · have q5 : decide (a ≤ 2147483647) = false := decide_eq_false q2
        clear hn
        go_wp2_with fail
        go_meet
        exact ⟨rfl, rfl⟩
    · have q5 : decide (-2147483648 ≤ a) = false := decide_eq_false q1
      clear hn
      go_wp2_with fail
      go_meet
      exact ⟨rfl, rfl⟩
  case rest =>
  obtain ⟨rfl, rfl⟩ := hcut
  go_wp2_with fail
  refine (HK.out w1).mono ?_; rintro e w2 ⟨rfl, hb⟩
  have P2 := Lib.hid (P1.out.step hb P1.out.size)
  clear hb
  have g1 : 0 ≤ c := hc1
  have g2 : c ≤ 255 := hc2
  have g3 : -32768 ≤ c := by omega
  have g4 : c ≤ 32767 := by omega
  obtain ⟨W3, hW3⟩ : ∃ x, x = w2.alloc (.cells #[.int .u8 0, .string { data := #[] }] 23) := ⟨_, rfl⟩
  have P3 := Lib.hid (show Below w.heap.size w W3 by rw [hW3]; exact P2.out.alloc P2.out.size _)
  have HF3 := Lib.hid (show ∀ W, Below W3.heap.size W3 W → W.cell? ⟨w2.heap.size, 0, none⟩ = W3.cell? ⟨w2.heap.size, 0, none⟩ ∧ W.cell? ⟨w2.heap.size, 1, none⟩ = W3.cell? ⟨w2.heap.size, 1, none⟩ from fun W hW => ⟨hW.cell (p := ⟨w2.heap.size, 0, none⟩) (by show w2.heap.size < _; rw [hW3]; simp), hW.cell (p := ⟨w2.heap.size, 1, none⟩) (by show w2.heap.size < _; rw [hW3]; simp)⟩)
  have HE3 := Lib.hid hW3
  have HC3 := Lib.hid (show W3.cell? ⟨w2.heap.size, 0, none⟩ = some (.int .u8 0) ∧ W3.cell? ⟨w2.heap.size, 1, none⟩ = some (.string { data := #[] }) by rw [hW3]; simp [go_sem])
  have HS3 := Lib.hid (show w2.heap.size < W3.heap.size by rw [hW3]; simp)
  clear hW3
  go_upto_region 7 with (fail)
  rw [← HE3.out]
  have k0 := HC3.out.1
  have k1 := HC3.out.2
  go_wp2_with fail
  refine (HZ.out W3).mono ?_; rintro e w4 ⟨rfl, hb⟩
  have P4 := Lib.hid (P3.out.step hb P3.out.size)
  have D4 := Lib.hid hb
  clear hb k0 k1
  have P5 := Lib.hid (P4.out.alloc P4.out.size (.cells #[.int .u8 90, .string yz] 23))
  have D5 := Lib.hid (D4.out.alloc D4.out.size (.cells #[.int .u8 90, .string yz] 23))
  have HB5 := Lib.hid (by have h := HB.out (w4.alloc (.cells #[.int .u8 90, .string yz] 23)); rw [World.size_alloc] at h; exact h)
  go_wp2_with fail
  refine HB5.out.mono ?_; rintro e w6 ⟨rfl, hb⟩
  replace hb : Below (w4.alloc (.cells #[.int .u8 90, .string yz] 23)).heap.size (w4.alloc (.cells #[.int .u8 90, .string yz] 23)) w6 := by rw [World.size_alloc]; exact hb
  have P6 := Lib.hid (P5.out.step hb P5.out.size)
  have D6 := Lib.hid (D5.out.step hb D5.out.size)
  clear hb
  obtain ⟨W7, hW7⟩ : ∃ x, x = w6.alloc (.cells #[.int .u8 66, .string yb] 23) := ⟨_, rfl⟩
  have P7 := Lib.hid (show Below w.heap.size w W7 by rw [hW7]; exact P6.out.alloc P6.out.size _)
  have D7 := Lib.hid (show Below W3.heap.size W3 W7 by rw [hW7]; exact D6.out.alloc D6.out.size _)
  have HC7 := Lib.hid (show W7.cell? ⟨w6.heap.size, 0, none⟩ = some (.int .u8 66) ∧ W7.cell? ⟨w6.heap.size, 1, none⟩ = some (.string yb) by rw [hW7]; simp [go_sem])
  have HS7 := Lib.hid (show w6.heap.size < W7.heap.size by rw [hW7]; simp)
  have HE7 := Lib.hid hW7
  clear hW7
  go_upto_region 16 with (fail)
  rw [← HE7.out]
  have E7 := Lib.hid (Below.refl W7.heap.size W7)
  have e0 := (E7.out.cell (p := ⟨w6.heap.size, 0, none⟩) HS7.out).trans HC7.out.1
  have e1 := (E7.out.cell (p := ⟨w6.heap.size, 1, none⟩) HS7.out).trans HC7.out.2
  go_wp2_with fail
  refine (HDB.out W7).mono ?_; rintro e w10 ⟨tv2, nv2, rfl, hT2, hN2, hb⟩
  have P10 := Lib.hid (P7.out.step hb P7.out.size)
  obtain ⟨ta2, tc2, rfl⟩ := ownsRow_form hT2
  obtain ⟨g2, c2', rfl, hg1, hg2, hg3⟩ := own_cell hN2 rfl (Nat.succ_pos _)
  have m1 := cell_past (o := (.cells #[.int .u8 66, .slice ta2 2 tc2, .slice (some ⟨g2, 0, none⟩) 4 c2'] 28) ) (hg3 1 c rfl)
  clear hb hT2 hN2 hg3 e0 e1
  go_wp2_with fail
  go_ret
  exact ⟨rfl, P10.out.alloc P10.out.size _⟩

set_option maxRecDepth 100000 in
set_option maxHeartbeats 16000000 in
theorem numbers_false_neg (w : World) (a b c : Int) (h4 : four a b = false) (hc1 : c < 0) (hc2 : -32768 ≤ c) :
    Calls Tryd.prog 6 #[.int .i64 a, .int .i64 b, .int .i64 c] w fun e w' => e = .returned (.bool true) ∧ Below w.heap.size w w' := by
  have h1 : one c = false := Bool.eq_false_iff.2 (fun h => by have := one_iff.1 h; omega)
  have h2 : two c = true := two_iff.2 ⟨by omega, by omega⟩
  have HK := Lib.hid (fun w => enc_K_no w h4)
  have HZ := Lib.hid (fun w => enc_Z_no w h1)
  have HB := Lib.hid (fun w => enc_B_ok w h2)
  have HDB := Lib.hid (fun w => dec_B w h2)
  obtain ⟨yb, hyb⟩ : ∃ yb : ByteArray, yb = ⟨(bodyB c).toArray⟩ := ⟨_, rfl⟩
  rw [← hyb] at HB HDB
  clear hyb
  have H4 := Lib.hid h4
  clear h1 h2 h4
  go_enter Tryd.func6, Tryd.ntmps6
  go_wp2_with fail
  refine (shown_any _).mono ?_; rintro e w1 ⟨rfl, hb⟩
  have P1 := Lib.hid hb
  clear hb
  go_upto_region 4 with (fail)
  go_cut [8] (fun f wx => f = .bool false ∧ w1 = wx)
  case first =>
    have hn : ¬ ((-2147483648 ≤ a ∧ a ≤ 2147483647) ∧ (-2147483648 ≤ b ∧ b ≤ 2147483647)) := fun h => by have := four_iff.2 h; rw [H4.out] at this; cases this
    by_cases q1 : -2147483648 ≤ a
    · by_cases q2 : a ≤ 2147483647
      · by_cases q3 : -2147483648 ≤ b
        · have q4 : ¬ b ≤ 2147483647 := fun h => hn ⟨⟨q1, q2⟩, q3, h⟩
          have q5 : decide (b ≤ 2147483647) = false := decide_eq_false q4
          clear hn
          go_wp2_with fail
          go_meet
          exact ⟨rfl, rfl⟩
        · have q5 : decide (-2147483648 ≤ b) = false := decide_eq_false q3
          clear hn
          go_wp2_with fail
          go_meet
          exact ⟨rfl, rfl⟩
      · have q5 : decide (a ≤ 2147483647) = false := decide_eq_false q2
        clear hn
        go_wp2_with fail
        go_meet
        exact ⟨rfl, rfl⟩
    · have q5 : decide (-2147483648 ≤ a) = false := decide_eq_false q1
      clear hn
      go_wp2_with fail
      go_meet
      exact ⟨rfl, rfl⟩
  case rest =>
  obtain ⟨rfl, rfl⟩ := hcut
  go_wp2_with fail
  refine (HK.out w1).mono ?_; rintro e w2 ⟨rfl, hb⟩
  have P2 := Lib.hid (P1.out.step hb P1.out.size)
  clear hb
  have g1 : decide (0 ≤ c) = false := decide_eq_false (by omega)
  have g1n : ¬ 0 ≤ c := by omega
  have g3 : -32768 ≤ c := hc2
  have g4 : c ≤ 32767 := by omega
  obtain ⟨W3, hW3⟩ : ∃ x, x = w2.alloc (.cells #[.int .u8 0, .string { data := #[] }] 23) := ⟨_, rfl⟩
  have P3 := Lib.hid (show Below w.heap.size w W3 by rw [hW3]; exact P2.out.alloc P2.out.size _)
  have HF3 := Lib.hid (show ∀ W, Below W3.heap.size W3 W → W.cell? ⟨w2.heap.size, 0, none⟩ = W3.cell? ⟨w2.heap.size, 0, none⟩ ∧ W.cell? ⟨w2.heap.size, 1, none⟩ = W3.cell? ⟨w2.heap.size, 1, none⟩ from fun W hW => ⟨hW.cell (p := ⟨w2.heap.size, 0, none⟩) (by show w2.heap.size < _; rw [hW3]; simp), hW.cell (p := ⟨w2.heap.size, 1, none⟩) (by show w2.heap.size < _; rw [hW3]; simp)⟩)
  have HE3 := Lib.hid hW3
  have HC3 := Lib.hid (show W3.cell? ⟨w2.heap.size, 0, none⟩ = some (.int .u8 0) ∧ W3.cell? ⟨w2.heap.size, 1, none⟩ = some (.string { data := #[] }) by rw [hW3]; simp [go_sem])
  have HS3 := Lib.hid (show w2.heap.size < W3.heap.size by rw [hW3]; simp)
  clear hW3
  go_upto_region 7 with (fail)
  rw [← HE3.out]
  have k0 := HC3.out.1
  have k1 := HC3.out.2
  go_wp2_with fail
  refine (HZ.out W3).mono ?_; rintro e w4 ⟨rfl, hb⟩
  have P4 := Lib.hid (P3.out.step hb P3.out.size)
  have D4 := Lib.hid hb
  clear hb k0 k1
  have P5 := Lib.hid (P4.out.alloc P4.out.size (.cells #[.int .u8 0, .string { data := #[] }] 23))
  have D5 := Lib.hid (D4.out.alloc D4.out.size (.cells #[.int .u8 0, .string { data := #[] }] 23))
  have HB5 := Lib.hid (by have h := HB.out (w4.alloc (.cells #[.int .u8 0, .string { data := #[] }] 23)); rw [World.size_alloc] at h; exact h)
  go_wp2_with fail
  refine HB5.out.mono ?_; rintro e w6 ⟨rfl, hb⟩
  replace hb : Below (w4.alloc (.cells #[.int .u8 0, .string { data := #[] }] 23)).heap.size (w4.alloc (.cells #[.int .u8 0, .string { data := #[] }] 23)) w6 := by rw [World.size_alloc]; exact hb
  have P6 := Lib.hid (P5.out.step hb P5.out.size)
  have D6 := Lib.hid (D5.out.step hb D5.out.size)
  clear hb
  obtain ⟨W7, hW7⟩ : ∃ x, x = w6.alloc (.cells #[.int .u8 66, .string yb] 23) := ⟨_, rfl⟩
  have P7 := Lib.hid (show Below w.heap.size w W7 by rw [hW7]; exact P6.out.alloc P6.out.size _)
  have D7 := Lib.hid (show Below W3.heap.size W3 W7 by rw [hW7]; exact D6.out.alloc D6.out.size _)
  have HC7 := Lib.hid (show W7.cell? ⟨w6.heap.size, 0, none⟩ = some (.int .u8 66) ∧ W7.cell? ⟨w6.heap.size, 1, none⟩ = some (.string yb) by rw [hW7]; simp [go_sem])
  have HS7 := Lib.hid (show w6.heap.size < W7.heap.size by rw [hW7]; simp)
  have HE7 := Lib.hid hW7
  clear hW7
  go_upto_region 16 with (fail)
  rw [← HE7.out]
  have E7 := Lib.hid (Below.refl W7.heap.size W7)
  have e0 := (E7.out.cell (p := ⟨w6.heap.size, 0, none⟩) HS7.out).trans HC7.out.1
  have e1 := (E7.out.cell (p := ⟨w6.heap.size, 1, none⟩) HS7.out).trans HC7.out.2
  go_wp2_with fail
  refine (HDB.out W7).mono ?_; rintro e w10 ⟨tv2, nv2, rfl, hT2, hN2, hb⟩
  have P10 := Lib.hid (P7.out.step hb P7.out.size)
  obtain ⟨ta2, tc2, rfl⟩ := ownsRow_form hT2
  obtain ⟨g2, c2', rfl, hg1, hg2, hg3⟩ := own_cell hN2 rfl (Nat.succ_pos _)
  have m1 := cell_past (o := (.cells #[.int .u8 66, .slice ta2 2 tc2, .slice (some ⟨g2, 0, none⟩) 4 c2'] 28) ) (hg3 1 c rfl)
  clear hb hT2 hN2 hg3 e0 e1
  go_wp2_with fail
  go_ret
  exact ⟨rfl, P10.out.alloc P10.out.size _⟩

set_option maxRecDepth 100000 in
set_option maxHeartbeats 16000000 in
theorem numbers_false_big (w : World) (a b c : Int) (h4 : four a b = false) (hc1 : 255 < c) (hc2 : c ≤ 32767) :
    Calls Tryd.prog 6 #[.int .i64 a, .int .i64 b, .int .i64 c] w fun e w' => e = .returned (.bool true) ∧ Below w.heap.size w w' := by
  have h1 : one c = false := Bool.eq_false_iff.2 (fun h => by have := one_iff.1 h; omega)
  have h2 : two c = true := two_iff.2 ⟨by omega, by omega⟩
  have HK := Lib.hid (fun w => enc_K_no w h4)
  have HZ := Lib.hid (fun w => enc_Z_no w h1)
  have HB := Lib.hid (fun w => enc_B_ok w h2)
  have HDB := Lib.hid (fun w => dec_B w h2)
  obtain ⟨yb, hyb⟩ : ∃ yb : ByteArray, yb = ⟨(bodyB c).toArray⟩ := ⟨_, rfl⟩
  rw [← hyb] at HB HDB
  clear hyb
  have H4 := Lib.hid h4
  clear h1 h2 h4
  go_enter Tryd.func6, Tryd.ntmps6
  go_wp2_with fail
  refine (shown_any _).mono ?_; rintro e w1 ⟨rfl, hb⟩
  have P1 := Lib.hid hb
  clear hb
  go_upto_region 4 with (fail)
  go_cut [8] (fun f wx => f = .bool false ∧ w1 = wx)
  case first =>
    have hn : ¬ ((-2147483648 ≤ a ∧ a ≤ 2147483647) ∧ (-2147483648 ≤ b ∧ b ≤ 2147483647)) := fun h => by have := four_iff.2 h; rw [H4.out] at this; cases this
    by_cases q1 : -2147483648 ≤ a
    · by_cases q2 : a ≤ 2147483647
      · by_cases q3 : -2147483648 ≤ b
        · have q4 : ¬ b ≤ 2147483647 := fun h => hn ⟨⟨q1, q2⟩, q3, h⟩
          have q5 : decide (b ≤ 2147483647) = false := decide_eq_false q4
          clear hn
          go_wp2_with fail
          go_meet
          exact ⟨rfl, rfl⟩
        · have q5 : decide (-2147483648 ≤ b) = false := decide_eq_false q3
          clear hn
          go_wp2_with fail
          go_meet
          exact ⟨rfl, rfl⟩
      · have q5 : decide (a ≤ 2147483647) = false := decide_eq_false q2
        clear hn
        go_wp2_with fail
        go_meet
        exact ⟨rfl, rfl⟩
    · have q5 : decide (-2147483648 ≤ a) = false := decide_eq_false q1
      clear hn
      go_wp2_with fail
      go_meet
      exact ⟨rfl, rfl⟩
  case rest =>
  obtain ⟨rfl, rfl⟩ := hcut
  go_wp2_with fail
  refine (HK.out w1).mono ?_; rintro e w2 ⟨rfl, hb⟩
  have P2 := Lib.hid (P1.out.step hb P1.out.size)
  clear hb
  have g1 : 0 ≤ c := by omega
  have g2 : decide (c ≤ 255) = false := decide_eq_false (by omega)
  have g2n : ¬ c ≤ 255 := by omega
  have g3 : -32768 ≤ c := by omega
  have g4 : c ≤ 32767 := hc2
  obtain ⟨W3, hW3⟩ : ∃ x, x = w2.alloc (.cells #[.int .u8 0, .string { data := #[] }] 23) := ⟨_, rfl⟩
  have P3 := Lib.hid (show Below w.heap.size w W3 by rw [hW3]; exact P2.out.alloc P2.out.size _)
  have HF3 := Lib.hid (show ∀ W, Below W3.heap.size W3 W → W.cell? ⟨w2.heap.size, 0, none⟩ = W3.cell? ⟨w2.heap.size, 0, none⟩ ∧ W.cell? ⟨w2.heap.size, 1, none⟩ = W3.cell? ⟨w2.heap.size, 1, none⟩ from fun W hW => ⟨hW.cell (p := ⟨w2.heap.size, 0, none⟩) (by show w2.heap.size < _; rw [hW3]; simp), hW.cell (p := ⟨w2.heap.size, 1, none⟩) (by show w2.heap.size < _; rw [hW3]; simp)⟩)
  have HE3 := Lib.hid hW3
  have HC3 := Lib.hid (show W3.cell? ⟨w2.heap.size, 0, none⟩ = some (.int .u8 0) ∧ W3.cell? ⟨w2.heap.size, 1, none⟩ = some (.string { data := #[] }) by rw [hW3]; simp [go_sem])
  have HS3 := Lib.hid (show w2.heap.size < W3.heap.size by rw [hW3]; simp)
  clear hW3
  go_upto_region 7 with (fail)
  rw [← HE3.out]
  have k0 := HC3.out.1
  have k1 := HC3.out.2
  go_wp2_with fail
  refine (HZ.out W3).mono ?_; rintro e w4 ⟨rfl, hb⟩
  have P4 := Lib.hid (P3.out.step hb P3.out.size)
  have D4 := Lib.hid hb
  clear hb k0 k1
  have P5 := Lib.hid (P4.out.alloc P4.out.size (.cells #[.int .u8 0, .string { data := #[] }] 23))
  have D5 := Lib.hid (D4.out.alloc D4.out.size (.cells #[.int .u8 0, .string { data := #[] }] 23))
  have HB5 := Lib.hid (by have h := HB.out (w4.alloc (.cells #[.int .u8 0, .string { data := #[] }] 23)); rw [World.size_alloc] at h; exact h)
  go_wp2_with fail
  refine HB5.out.mono ?_; rintro e w6 ⟨rfl, hb⟩
  replace hb : Below (w4.alloc (.cells #[.int .u8 0, .string { data := #[] }] 23)).heap.size (w4.alloc (.cells #[.int .u8 0, .string { data := #[] }] 23)) w6 := by rw [World.size_alloc]; exact hb
  have P6 := Lib.hid (P5.out.step hb P5.out.size)
  have D6 := Lib.hid (D5.out.step hb D5.out.size)
  clear hb
  obtain ⟨W7, hW7⟩ : ∃ x, x = w6.alloc (.cells #[.int .u8 66, .string yb] 23) := ⟨_, rfl⟩
  have P7 := Lib.hid (show Below w.heap.size w W7 by rw [hW7]; exact P6.out.alloc P6.out.size _)
  have D7 := Lib.hid (show Below W3.heap.size W3 W7 by rw [hW7]; exact D6.out.alloc D6.out.size _)
  have HC7 := Lib.hid (show W7.cell? ⟨w6.heap.size, 0, none⟩ = some (.int .u8 66) ∧ W7.cell? ⟨w6.heap.size, 1, none⟩ = some (.string yb) by rw [hW7]; simp [go_sem])
  have HS7 := Lib.hid (show w6.heap.size < W7.heap.size by rw [hW7]; simp)
  have HE7 := Lib.hid hW7
  clear hW7
  go_upto_region 16 with (fail)
  rw [← HE7.out]
  have E7 := Lib.hid (Below.refl W7.heap.size W7)
  have e0 := (E7.out.cell (p := ⟨w6.heap.size, 0, none⟩) HS7.out).trans HC7.out.1
  have e1 := (E7.out.cell (p := ⟨w6.heap.size, 1, none⟩) HS7.out).trans HC7.out.2
  go_wp2_with fail
  refine (HDB.out W7).mono ?_; rintro e w10 ⟨tv2, nv2, rfl, hT2, hN2, hb⟩
  have P10 := Lib.hid (P7.out.step hb P7.out.size)
  obtain ⟨ta2, tc2, rfl⟩ := ownsRow_form hT2
  obtain ⟨g2, c2', rfl, hg1, hg2, hg3⟩ := own_cell hN2 rfl (Nat.succ_pos _)
  have m1 := cell_past (o := (.cells #[.int .u8 66, .slice ta2 2 tc2, .slice (some ⟨g2, 0, none⟩) 4 c2'] 28) ) (hg3 1 c rfl)
  clear hb hT2 hN2 hg3 e0 e1
  go_wp2_with fail
  go_ret
  exact ⟨rfl, P10.out.alloc P10.out.size _⟩

set_option maxRecDepth 100000 in
set_option maxHeartbeats 16000000 in
theorem numbers_false_low (w : World) (a b c : Int) (h4 : four a b = false) (hc1 : c < -32768) :
    Calls Tryd.prog 6 #[.int .i64 a, .int .i64 b, .int .i64 c] w fun e w' => e = .returned (.bool true) ∧ Below w.heap.size w w' := by
  have h1 : one c = false := Bool.eq_false_iff.2 (fun h => by have := one_iff.1 h; omega)
  have h2 : two c = false := Bool.eq_false_iff.2 (fun h => by have := two_iff.1 h; omega)
  have HK := Lib.hid (fun w => enc_K_no w h4)
  have HZ := Lib.hid (fun w => enc_Z_no w h1)
  have HB := Lib.hid (fun w => enc_B_no w h2)
  have H4 := Lib.hid h4
  clear h1 h2 h4
  go_enter Tryd.func6, Tryd.ntmps6
  go_wp2_with fail
  refine (shown_any _).mono ?_; rintro e w1 ⟨rfl, hb⟩
  have P1 := Lib.hid hb
  clear hb
  go_upto_region 4 with (fail)
  go_cut [8] (fun f wx => f = .bool false ∧ w1 = wx)
  case first =>
    have hn : ¬ ((-2147483648 ≤ a ∧ a ≤ 2147483647) ∧ (-2147483648 ≤ b ∧ b ≤ 2147483647)) := fun h => by have := four_iff.2 h; rw [H4.out] at this; cases this
    by_cases q1 : -2147483648 ≤ a
    · by_cases q2 : a ≤ 2147483647
      · by_cases q3 : -2147483648 ≤ b
        · have q4 : ¬ b ≤ 2147483647 := fun h => hn ⟨⟨q1, q2⟩, q3, h⟩
          have q5 : decide (b ≤ 2147483647) = false := decide_eq_false q4
          clear hn
          go_wp2_with fail
          go_meet
          exact ⟨rfl, rfl⟩
        · have q5 : decide (-2147483648 ≤ b) = false := decide_eq_false q3
          clear hn
          go_wp2_with fail
          go_meet
          exact ⟨rfl, rfl⟩
      · have q5 : decide (a ≤ 2147483647) = false := decide_eq_false q2
        clear hn
        go_wp2_with fail
        go_meet
        exact ⟨rfl, rfl⟩
    · have q5 : decide (-2147483648 ≤ a) = false := decide_eq_false q1
      clear hn
      go_wp2_with fail
      go_meet
      exact ⟨rfl, rfl⟩
  case rest =>
  obtain ⟨rfl, rfl⟩ := hcut
  go_wp2_with fail
  refine (HK.out w1).mono ?_; rintro e w2 ⟨rfl, hb⟩
  have P2 := Lib.hid (P1.out.step hb P1.out.size)
  clear hb
  have g1 : decide (0 ≤ c) = false := decide_eq_false (by omega)
  have g1n : ¬ 0 ≤ c := by omega
  have g3 : decide (-32768 ≤ c) = false := decide_eq_false (by omega)
  have g3n : ¬ -32768 ≤ c := by omega
  obtain ⟨W3, hW3⟩ : ∃ x, x = w2.alloc (.cells #[.int .u8 0, .string { data := #[] }] 23) := ⟨_, rfl⟩
  have P3 := Lib.hid (show Below w.heap.size w W3 by rw [hW3]; exact P2.out.alloc P2.out.size _)
  have HF3 := Lib.hid (show ∀ W, Below W3.heap.size W3 W → W.cell? ⟨w2.heap.size, 0, none⟩ = W3.cell? ⟨w2.heap.size, 0, none⟩ ∧ W.cell? ⟨w2.heap.size, 1, none⟩ = W3.cell? ⟨w2.heap.size, 1, none⟩ from fun W hW => ⟨hW.cell (p := ⟨w2.heap.size, 0, none⟩) (by show w2.heap.size < _; rw [hW3]; simp), hW.cell (p := ⟨w2.heap.size, 1, none⟩) (by show w2.heap.size < _; rw [hW3]; simp)⟩)
  have HE3 := Lib.hid hW3
  have HC3 := Lib.hid (show W3.cell? ⟨w2.heap.size, 0, none⟩ = some (.int .u8 0) ∧ W3.cell? ⟨w2.heap.size, 1, none⟩ = some (.string { data := #[] }) by rw [hW3]; simp [go_sem])
  have HS3 := Lib.hid (show w2.heap.size < W3.heap.size by rw [hW3]; simp)
  clear hW3
  go_upto_region 7 with (fail)
  rw [← HE3.out]
  have k0 := HC3.out.1
  have k1 := HC3.out.2
  go_wp2_with fail
  refine (HZ.out W3).mono ?_; rintro e w4 ⟨rfl, hb⟩
  have P4 := Lib.hid (P3.out.step hb P3.out.size)
  have D4 := Lib.hid hb
  clear hb k0 k1
  have P5 := Lib.hid (P4.out.alloc P4.out.size (.cells #[.int .u8 0, .string { data := #[] }] 23))
  have D5 := Lib.hid (D4.out.alloc D4.out.size (.cells #[.int .u8 0, .string { data := #[] }] 23))
  have HB5 := Lib.hid (by have h := HB.out (w4.alloc (.cells #[.int .u8 0, .string { data := #[] }] 23)); rw [World.size_alloc] at h; exact h)
  go_wp2_with fail
  refine HB5.out.mono ?_; rintro e w6 ⟨rfl, hb⟩
  replace hb : Below (w4.alloc (.cells #[.int .u8 0, .string { data := #[] }] 23)).heap.size (w4.alloc (.cells #[.int .u8 0, .string { data := #[] }] 23)) w6 := by rw [World.size_alloc]; exact hb
  have P6 := Lib.hid (P5.out.step hb P5.out.size)
  have D6 := Lib.hid (D5.out.step hb D5.out.size)
  clear hb
  obtain ⟨W7, hW7⟩ : ∃ x, x = w6.alloc (.cells #[.int .u8 0, .string { data := #[] }] 23) := ⟨_, rfl⟩
  have P7 := Lib.hid (show Below w.heap.size w W7 by rw [hW7]; exact P6.out.alloc P6.out.size _)
  have D7 := Lib.hid (show Below W3.heap.size W3 W7 by rw [hW7]; exact D6.out.alloc D6.out.size _)
  have HC7 := Lib.hid (show W7.cell? ⟨w6.heap.size, 0, none⟩ = some (.int .u8 0) ∧ W7.cell? ⟨w6.heap.size, 1, none⟩ = some (.string { data := #[] }) by rw [hW7]; simp [go_sem])
  have HS7 := Lib.hid (show w6.heap.size < W7.heap.size by rw [hW7]; simp)
  have HE7 := Lib.hid hW7
  clear hW7
  go_upto_region 16 with (fail)
  rw [← HE7.out]
  go_wp2_with fail
  go_ret
  exact ⟨rfl, P7.out⟩

set_option maxRecDepth 100000 in
set_option maxHeartbeats 16000000 in
theorem numbers_false_top (w : World) (a b c : Int) (h4 : four a b = false) (hc1 : 32767 < c) :
    Calls Tryd.prog 6 #[.int .i64 a, .int .i64 b, .int .i64 c] w fun e w' => e = .returned (.bool true) ∧ Below w.heap.size w w' := by
  have h1 : one c = false := Bool.eq_false_iff.2 (fun h => by have := one_iff.1 h; omega)
  have h2 : two c = false := Bool.eq_false_iff.2 (fun h => by have := two_iff.1 h; omega)
  have HK := Lib.hid (fun w => enc_K_no w h4)
  have HZ := Lib.hid (fun w => enc_Z_no w h1)
  have HB := Lib.hid (fun w => enc_B_no w h2)
  have H4 := Lib.hid h4
  clear h1 h2 h4
  go_enter Tryd.func6, Tryd.ntmps6
  go_wp2_with fail
  refine (shown_any _).mono ?_; rintro e w1 ⟨rfl, hb⟩
  have P1 := Lib.hid hb
  clear hb
  go_upto_region 4 with (fail)
  go_cut [8] (fun f wx => f = .bool false ∧ w1 = wx)
  case first =>
    have hn : ¬ ((-2147483648 ≤ a ∧ a ≤ 2147483647) ∧ (-2147483648 ≤ b ∧ b ≤ 2147483647)) := fun h => by have := four_iff.2 h; rw [H4.out] at this; cases this
    by_cases q1 : -2147483648 ≤ a
    · by_cases q2 : a ≤ 2147483647
      · by_cases q3 : -2147483648 ≤ b
        · have q4 : ¬ b ≤ 2147483647 := fun h => hn ⟨⟨q1, q2⟩, q3, h⟩
          have q5 : decide (b ≤ 2147483647) = false := decide_eq_false q4
          clear hn
          go_wp2_with fail
          go_meet
          exact ⟨rfl, rfl⟩
        · have q5 : decide (-2147483648 ≤ b) = false := decide_eq_false q3
          clear hn
          go_wp2_with fail
          go_meet
          exact ⟨rfl, rfl⟩
      · have q5 : decide (a ≤ 2147483647) = false := decide_eq_false q2
        clear hn
        go_wp2_with fail
        go_meet
        exact ⟨rfl, rfl⟩
    · have q5 : decide (-2147483648 ≤ a) = false := decide_eq_false q1
      clear hn
      go_wp2_with fail
      go_meet
      exact ⟨rfl, rfl⟩
  case rest =>
  obtain ⟨rfl, rfl⟩ := hcut
  go_wp2_with fail
  refine (HK.out w1).mono ?_; rintro e w2 ⟨rfl, hb⟩
  have P2 := Lib.hid (P1.out.step hb P1.out.size)
  clear hb
  have g1 : 0 ≤ c := by omega
  have g2 : decide (c ≤ 255) = false := decide_eq_false (by omega)
  have g2n : ¬ c ≤ 255 := by omega
  have g3 : -32768 ≤ c := by omega
  have g4 : decide (c ≤ 32767) = false := decide_eq_false (by omega)
  have g4n : ¬ c ≤ 32767 := by omega
  obtain ⟨W3, hW3⟩ : ∃ x, x = w2.alloc (.cells #[.int .u8 0, .string { data := #[] }] 23) := ⟨_, rfl⟩
  have P3 := Lib.hid (show Below w.heap.size w W3 by rw [hW3]; exact P2.out.alloc P2.out.size _)
  have HF3 := Lib.hid (show ∀ W, Below W3.heap.size W3 W → W.cell? ⟨w2.heap.size, 0, none⟩ = W3.cell? ⟨w2.heap.size, 0, none⟩ ∧ W.cell? ⟨w2.heap.size, 1, none⟩ = W3.cell? ⟨w2.heap.size, 1, none⟩ from fun W hW => ⟨hW.cell (p := ⟨w2.heap.size, 0, none⟩) (by show w2.heap.size < _; rw [hW3]; simp), hW.cell (p := ⟨w2.heap.size, 1, none⟩) (by show w2.heap.size < _; rw [hW3]; simp)⟩)
  have HE3 := Lib.hid hW3
  have HC3 := Lib.hid (show W3.cell? ⟨w2.heap.size, 0, none⟩ = some (.int .u8 0) ∧ W3.cell? ⟨w2.heap.size, 1, none⟩ = some (.string { data := #[] }) by rw [hW3]; simp [go_sem])
  have HS3 := Lib.hid (show w2.heap.size < W3.heap.size by rw [hW3]; simp)
  clear hW3
  go_upto_region 7 with (fail)
  rw [← HE3.out]
  have k0 := HC3.out.1
  have k1 := HC3.out.2
  go_wp2_with fail
  refine (HZ.out W3).mono ?_; rintro e w4 ⟨rfl, hb⟩
  have P4 := Lib.hid (P3.out.step hb P3.out.size)
  have D4 := Lib.hid hb
  clear hb k0 k1
  have P5 := Lib.hid (P4.out.alloc P4.out.size (.cells #[.int .u8 0, .string { data := #[] }] 23))
  have D5 := Lib.hid (D4.out.alloc D4.out.size (.cells #[.int .u8 0, .string { data := #[] }] 23))
  have HB5 := Lib.hid (by have h := HB.out (w4.alloc (.cells #[.int .u8 0, .string { data := #[] }] 23)); rw [World.size_alloc] at h; exact h)
  go_wp2_with fail
  refine HB5.out.mono ?_; rintro e w6 ⟨rfl, hb⟩
  replace hb : Below (w4.alloc (.cells #[.int .u8 0, .string { data := #[] }] 23)).heap.size (w4.alloc (.cells #[.int .u8 0, .string { data := #[] }] 23)) w6 := by rw [World.size_alloc]; exact hb
  have P6 := Lib.hid (P5.out.step hb P5.out.size)
  have D6 := Lib.hid (D5.out.step hb D5.out.size)
  clear hb
  obtain ⟨W7, hW7⟩ : ∃ x, x = w6.alloc (.cells #[.int .u8 0, .string { data := #[] }] 23) := ⟨_, rfl⟩
  have P7 := Lib.hid (show Below w.heap.size w W7 by rw [hW7]; exact P6.out.alloc P6.out.size _)
  have D7 := Lib.hid (show Below W3.heap.size W3 W7 by rw [hW7]; exact D6.out.alloc D6.out.size _)
  have HC7 := Lib.hid (show W7.cell? ⟨w6.heap.size, 0, none⟩ = some (.int .u8 0) ∧ W7.cell? ⟨w6.heap.size, 1, none⟩ = some (.string { data := #[] }) by rw [hW7]; simp [go_sem])
  have HS7 := Lib.hid (show w6.heap.size < W7.heap.size by rw [hW7]; simp)
  have HE7 := Lib.hid hW7
  clear hW7
  go_upto_region 16 with (fail)
  rw [← HE7.out]
  go_wp2_with fail
  go_ret
  exact ⟨rfl, P7.out⟩
end Go.Proofs.YtfdffiphlpeegaaDoor
