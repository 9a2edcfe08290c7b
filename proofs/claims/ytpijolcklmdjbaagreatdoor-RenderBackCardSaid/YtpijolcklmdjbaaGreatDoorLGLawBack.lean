/- A command that is rendered and parsed is the command, and its query is taken as the statement: RenderBack answers true, whatever command it is called with, and leaves what was there as it was. (Over the listed variables, tied to the program's text.) -/
import Derived.Test.YtpijolcklmdjbaaGreatDoorZ46
import Derived.Test.YtpijolcklmdjbaaGreatDoorZ38
namespace Go.Proofs.YtpijolcklmdjbaaGreatDoor
open Go.RowKit Go.Lib Go.WideShapes Go.ChangeShapes Go.ChangeAt Go.Joins

theorem gb_sn : strO none = { data := #[] } := rfl
theorem gb_en : errO none = 1 := rfl
theorem gb_ss (s : Bs) : strO (some s) = ⟨s.toArray⟩ := rfl
theorem gb_es (s : Bs) : errO (some s) = 0 := rfl
theorem gb_one (r : Option Bs) : r = none ∨ ∃ s, r = some s := by cases r with
  | none => exact .inl rfl
  | some s => exact .inr ⟨s, rfl⟩
theorem gb_text (l : Bs) : bytes (⟨l.toArray⟩ : ByteArray) = l := by simp [bytes]
theorem gb_same (x : ByteArray) : (x.toList == x.toList) = true := by simp
theorem gb_kinds {k : UInt8} {n v s : Bs} (h : statT k n v = some s) (h1 : ¬ k = 115) (h2 : ¬ k = 108) (h3 : ¬ k = 114) : k = 97 ∨ k = 120 ∨ k = 98 ∨ k = 99 ∨ k = 107 := by
  unfold statT at h
  rw [if_neg h1, if_neg h2, if_neg h3] at h
  by_cases h4 : k = 97
  · exact .inl h4
  · rw [if_neg h4] at h
    by_cases h5 : k = 120
    · exact .inr (.inl h5)
    · rw [if_neg h5] at h
      by_cases h6 : k = 98
      · exact .inr (.inr (.inl h6))
      · rw [if_neg h6] at h
        by_cases h7 : k = 99
        · exact .inr (.inr (.inr (.inl h7)))
        · rw [if_neg h7] at h
          by_cases h8 : k = 107
          · exact .inr (.inr (.inr (.inr h8)))
          · rw [if_neg h8] at h; cases h
set_option maxRecDepth 100000 in
set_option maxHeartbeats 32000000 in
theorem back_walk (c1 : UInt8) (n1 v1 : ByteArray) (m : Int) (w : World) (zn1 : n1.size ≤ 140737488351232) (zv1 : v1.size ≤ 140737488351232) (hm : w.cell? ⟨2, 0, none⟩ = some (.int .i64 m)) (hT : TakenAt w) (hBar : BarredAt w) :
    Calls Tryz.prog 3 #[.agg #[.int .u8 (c1.toNat : Nat), .string n1, .string v1]] w fun e w' => e = .returned (.bool true) ∧ Below w.heap.size w w' := by
  obtain ⟨i1, hi1⟩ : ∃ i : Int, i = (c1.toNat : Nat) := ⟨_, rfl⟩
  rw [← hi1]
  have HC1 := Lib.hid hi1.symm
  obtain ⟨W0, hW0⟩ : ∃ x, x = (w.alloc (.cells #[.int .u8 i1, .string n1, .string v1] 23)) := ⟨_, rfl⟩
  have hsz : W0.heap.size = w.heap.size + 1 := by rw [hW0]; simp
  have HB := Lib.hid (show Below w.heap.size w W0 by rw [hW0]; exact (Below.refl _ _).alloc (Nat.le_refl _) _)
  have HK := Lib.hid (show ∀ W, Below W0.heap.size W0 W → W.cell? ⟨w.heap.size, 0, none⟩ = some (.int .u8 i1) ∧ W.cell? ⟨w.heap.size, 1, none⟩ = some (.string n1) ∧ W.cell? ⟨w.heap.size, 2, none⟩ = some (.string v1) from by
    intro W hW
    have k : ∀ q i, q < W0.heap.size → W.cell? ⟨q, i, none⟩ = W0.cell? ⟨q, i, none⟩ := fun q i h => hW.cell (p := ⟨q, i, none⟩) h
    refine ⟨(k _ _ (by omega)).trans ?_, (k _ _ (by omega)).trans ?_, (k _ _ (by omega)).trans ?_⟩ <;> (rw [hW0]; simp [go_sem]))
  have HE := Lib.hid hW0
  have HW0 := Lib.hid (World.block_lt_of_cell? w ⟨2, 0, none⟩ hm)
  have HM := Lib.hid hm
  have HMW := Lib.hid (fun W (h : Below w.heap.size w W) => (h.cell (p := ⟨2, 0, none⟩) HW0.out).trans HM.out)
  have HT := Lib.hid hT
  have HBAR := Lib.hid hBar
  clear hW0 hsz hi1 hm hT hBar
  go_enter Tryz.func3, Tryz.ntmps3
  go_wp2_with fail
  rw [← HE.out]
  refine (shown13 m W0 (HMW.out _ HB.out) (HT.out.step HB.out)).mono ?_; rintro e w1 ⟨rfl, hb⟩
  have B1 := Lib.hid hb
  have P1 := Lib.hid (HB.out.step hb HB.out.size)
  clear hb
  obtain ⟨k0, k1, k2⟩ := HK.out _ B1.out
  go_wp2_with fail
  refine (g_short_any _ n1 v1 w1 zn1 zv1).mono ?_; rintro e w2 ⟨rfl, hb⟩
  have B2 := Lib.hid (B1.out.step hb B1.out.size)
  have P2 := Lib.hid (P1.out.step hb P1.out.size)
  clear hb k0 k1 k2
  obtain ⟨k0, k1, k2⟩ := HK.out _ B2.out
  by_cases hs1 : ¬ ((n1.size : Int) + v1.size < 2000)
  · rw [decide_eq_false hs1]
    go_wp2_with fail
    go_ret
    exact ⟨rfl, P2.out⟩
  have hs1 := Decidable.not_not.1 hs1
  rw [decide_eq_true hs1]
  have HS1 := Lib.hid (fun W hm hT => stat_any c1 n1 v1 m W (by omega) (by omega) hm hT)
  clear hs1 zn1 zv1
  rw [HC1.out] at HS1
  obtain ⟨R1, hR1⟩ : ∃ R, R = statT c1 (bytes n1) (bytes v1) := ⟨_, rfl⟩
  rw [← hR1] at HS1
  have HR1 := Lib.hid hR1
  clear hR1
  unfold ansO at HS1
  go_wp2_with fail
  refine (HS1.out w2 (HMW.out _ P2.out) (HT.out.step P2.out)).mono ?_; rintro e w3 ⟨rfl, hb⟩
  have B3 := Lib.hid (B2.out.step hb B2.out.size)
  have P3 := Lib.hid (P2.out.step hb P2.out.size)
  clear hb k0 k1 k2 HS1
  obtain ⟨k0, k1, k2⟩ := HK.out _ B3.out
  rcases gb_one R1 with rfl | ⟨s, rfl⟩
  · simp only [gb_sn, gb_en]
    go_wp2_with fail
    go_ret
    exact ⟨rfl, P3.out⟩
  · have hbk := stat_back HR1.out.symm
    have hsm := stat_small HR1.out.symm
    simp only [gb_ss, gb_es]
    obtain ⟨S, hS⟩ : ∃ S : ByteArray, S = ⟨s.toArray⟩ := ⟨_, rfl⟩
    rw [← hS]
    have HBS := Lib.hid (show bytes S = s by rw [hS, gb_text])
    have HSS := Lib.hid (show (⟨s.toArray⟩ : ByteArray) = S from hS.symm)
    have HSZ := Lib.hid (show S.size ≤ 266 by rw [hS, bsize]; exact hsm.1)
    have HBK := Lib.hid hbk
    have HQ := Lib.hid (fun W => query_any W S (by have := HSZ.out; omega))
    rw [query_good (s := S) (by rw [HBS.out]; exact hsm.2) (by have := HSZ.out; omega), show qS S = packB 81 ⟨(bytes S ++ [0]).toArray⟩ from rfl, HBS.out] at HQ
    have HTA := Lib.hid (fun W => take_text 81 (by decide) ⟨(s ++ [0]).toArray⟩ (by rw [bsize, List.length_append]; have := hsm.1; simp; omega) W)
    have HDE := Lib.hid (fun W => decode_any W false 81 (s ++ [0]) (by rw [List.length_append]; have := hsm.1; simp; omega))
    rw [show readD false 81 (s ++ [0]) = some ([s], []) from by unfold readD; rw [if_neg (by rw [List.length_append]; have := hsm.1; simp; omega)]; exact query_read hsm.2] at HDE
    clear hbk hsm hS
    by_cases hk : c1 = 115
    · subst hk
      obtain rfl : i1 = 115 := HC1.out.symm
      have HP := Lib.hid (fun W hm hbar => parse_any S m W (by have := HSZ.out; omega) hm hbar)
      rw [HBS.out, HBK.out] at HP
      have HP := Lib.hid (show ∀ (W : World), W.cell? ⟨2, 0, none⟩ = some (.int .i64 m) → BarredAt W → Calls Tryz.prog 9 #[.string S] W fun e w' => e = .returned (.tuple #[.agg #[.int .u8 115, .string n1, .string v1], .int .i64 0]) ∧ Below W.heap.size W w' from HP.out)
      go_wp2_with fail
      refine (HP.out w3 (HMW.out _ P3.out) (HBAR.out.step P3.out)).mono ?_; rintro e w4 ⟨rfl, hb⟩
      have B4 := Lib.hid (B3.out.step hb B3.out.size)
      have P4 := Lib.hid (P3.out.step hb P3.out.size)
      have B5 := Lib.hid (B4.out.alloc B4.out.size (.cells #[.int .u8 115, .string n1, .string v1] 23))
      have P5 := Lib.hid (P4.out.alloc P4.out.size (.cells #[.int .u8 115, .string n1, .string v1] 23))
      clear hb k0 k1 k2
      obtain ⟨k0, k1, k2⟩ := HK.out _ B5.out
      have sn1 := gb_same n1
      have sv1 := gb_same v1
      go_wp2_with fail
      refine (HQ.out _).mono ?_; rintro e w6 ⟨rfl, hb⟩
      have P6 := Lib.hid (P5.out.step hb P5.out.size)
      clear hb k0 k1 k2 sn1 sv1
      go_wp2_with fail
      refine (HTA.out _).mono ?_; rintro e w7 ⟨rfl, hb⟩
      have P7 := Lib.hid (P6.out.step hb P6.out.size)
      have P8 := Lib.hid (P7.out.alloc P7.out.size (.cells #[.int .u8 81, .string ⟨(s ++ [0]).toArray⟩] 33))
      clear hb
      go_wp2_with fail
      refine (HDE.out _).mono ?_; rintro e w9 ⟨tv, nv, rfl, hT4, hN4, hb⟩
      have P9 := Lib.hid (P8.out.step hb P8.out.size)
      have HT4 := own_textsIn hT4
      obtain ⟨ta, tc, rfl⟩ := ownsRow_form hT4
      obtain ⟨na, nc, rfl⟩ := ownsRow_form hN4
      obtain ⟨_, _, _, htv, _, htc, htc2, hTc⟩ := HT4
      injection htv with e1 e2 e3
      subst e1 e2 e3
      rcases hTc with hTc | ⟨gt, ot, rfl, hgt, hTc⟩
      · cases hTc
      have t0 := hTc 0 _ rfl
      rw [Nat.add_zero] at t0
      rw [HSS.out] at t0
      clear hT4 hN4 hb hTc HTA HDE HQ HP
      simp only [List.length_cons, List.length_nil] at htc ⊢
      have htc' : (1 : Int) ≤ tc := by omega
      go_wp2_with fail
      go_ret
      exact ⟨rfl, P9.out.alloc P9.out.size _⟩
    by_cases hk2 : c1 = 108
    · have hk := hk2
      subst hk
      obtain rfl : i1 = 108 := HC1.out.symm
      have HP := Lib.hid (fun W hm hbar => parse_any S m W (by have := HSZ.out; omega) hm hbar)
      rw [HBS.out, HBK.out] at HP
      have HP := Lib.hid (show ∀ (W : World), W.cell? ⟨2, 0, none⟩ = some (.int .i64 m) → BarredAt W → Calls Tryz.prog 9 #[.string S] W fun e w' => e = .returned (.tuple #[.agg #[.int .u8 108, .string n1, .string v1], .int .i64 0]) ∧ Below W.heap.size W w' from HP.out)
      go_wp2_with fail
      refine (HP.out w3 (HMW.out _ P3.out) (HBAR.out.step P3.out)).mono ?_; rintro e w4 ⟨rfl, hb⟩
      have B4 := Lib.hid (B3.out.step hb B3.out.size)
      have P4 := Lib.hid (P3.out.step hb P3.out.size)
      have B5 := Lib.hid (B4.out.alloc B4.out.size (.cells #[.int .u8 108, .string n1, .string v1] 23))
      have P5 := Lib.hid (P4.out.alloc P4.out.size (.cells #[.int .u8 108, .string n1, .string v1] 23))
      clear hb k0 k1 k2
      obtain ⟨k0, k1, k2⟩ := HK.out _ B5.out
      have sn1 := gb_same n1
      have sv1 := gb_same v1
      go_wp2_with fail
      refine (HQ.out _).mono ?_; rintro e w6 ⟨rfl, hb⟩
      have P6 := Lib.hid (P5.out.step hb P5.out.size)
      clear hb k0 k1 k2 sn1 sv1
      go_wp2_with fail
      refine (HTA.out _).mono ?_; rintro e w7 ⟨rfl, hb⟩
      have P7 := Lib.hid (P6.out.step hb P6.out.size)
      have P8 := Lib.hid (P7.out.alloc P7.out.size (.cells #[.int .u8 81, .string ⟨(s ++ [0]).toArray⟩] 33))
      clear hb
      go_wp2_with fail
      refine (HDE.out _).mono ?_; rintro e w9 ⟨tv, nv, rfl, hT4, hN4, hb⟩
      have P9 := Lib.hid (P8.out.step hb P8.out.size)
      have HT4 := own_textsIn hT4
      obtain ⟨ta, tc, rfl⟩ := ownsRow_form hT4
      obtain ⟨na, nc, rfl⟩ := ownsRow_form hN4
      obtain ⟨_, _, _, htv, _, htc, htc2, hTc⟩ := HT4
      injection htv with e1 e2 e3
      subst e1 e2 e3
      rcases hTc with hTc | ⟨gt, ot, rfl, hgt, hTc⟩
      · cases hTc
      have t0 := hTc 0 _ rfl
      rw [Nat.add_zero] at t0
      rw [HSS.out] at t0
      clear hT4 hN4 hb hTc HTA HDE HQ HP
      simp only [List.length_cons, List.length_nil] at htc ⊢
      have htc' : (1 : Int) ≤ tc := by omega
      go_wp2_with fail
      go_ret
      exact ⟨rfl, P9.out.alloc P9.out.size _⟩
    by_cases hk3 : c1 = 114
    · have hk := hk3
      subst hk
      obtain rfl : i1 = 114 := HC1.out.symm
      have HP := Lib.hid (fun W hm hbar => parse_any S m W (by have := HSZ.out; omega) hm hbar)
      rw [HBS.out, HBK.out] at HP
      have HP := Lib.hid (show ∀ (W : World), W.cell? ⟨2, 0, none⟩ = some (.int .i64 m) → BarredAt W → Calls Tryz.prog 9 #[.string S] W fun e w' => e = .returned (.tuple #[.agg #[.int .u8 114, .string n1, .string { data := #[] }], .int .i64 0]) ∧ Below W.heap.size W w' from HP.out)
      go_wp2_with fail
      refine (HP.out w3 (HMW.out _ P3.out) (HBAR.out.step P3.out)).mono ?_; rintro e w4 ⟨rfl, hb⟩
      have B4 := Lib.hid (B3.out.step hb B3.out.size)
      have P4 := Lib.hid (P3.out.step hb P3.out.size)
      have B5 := Lib.hid (B4.out.alloc B4.out.size (.cells #[.int .u8 114, .string n1, .string { data := #[] }] 23))
      have P5 := Lib.hid (P4.out.alloc P4.out.size (.cells #[.int .u8 114, .string n1, .string { data := #[] }] 23))
      clear hb k0 k1 k2
      obtain ⟨k0, k1, k2⟩ := HK.out _ B5.out
      have sn1 := gb_same n1
      have sv1 := gb_same v1
      go_wp2_with fail
      refine (HQ.out _).mono ?_; rintro e w6 ⟨rfl, hb⟩
      have P6 := Lib.hid (P5.out.step hb P5.out.size)
      clear hb k0 k1 k2 sn1 sv1
      go_wp2_with fail
      refine (HTA.out _).mono ?_; rintro e w7 ⟨rfl, hb⟩
      have P7 := Lib.hid (P6.out.step hb P6.out.size)
      have P8 := Lib.hid (P7.out.alloc P7.out.size (.cells #[.int .u8 81, .string ⟨(s ++ [0]).toArray⟩] 33))
      clear hb
      go_wp2_with fail
      refine (HDE.out _).mono ?_; rintro e w9 ⟨tv, nv, rfl, hT4, hN4, hb⟩
      have P9 := Lib.hid (P8.out.step hb P8.out.size)
      have HT4 := own_textsIn hT4
      obtain ⟨ta, tc, rfl⟩ := ownsRow_form hT4
      obtain ⟨na, nc, rfl⟩ := ownsRow_form hN4
      obtain ⟨_, _, _, htv, _, htc, htc2, hTc⟩ := HT4
      injection htv with e1 e2 e3
      subst e1 e2 e3
      rcases hTc with hTc | ⟨gt, ot, rfl, hgt, hTc⟩
      · cases hTc
      have t0 := hTc 0 _ rfl
      rw [Nat.add_zero] at t0
      rw [HSS.out] at t0
      clear hT4 hN4 hb hTc HTA HDE HQ HP
      simp only [List.length_cons, List.length_nil] at htc ⊢
      have htc' : (1 : Int) ≤ tc := by omega
      go_wp2_with fail
      go_ret
      exact ⟨rfl, P9.out.alloc P9.out.size _⟩
    rcases gb_kinds HR1.out.symm hk hk2 hk3 with hk | hk | hk | hk | hk
    · subst hk
      obtain rfl : i1 = 97 := HC1.out.symm
      have HP := Lib.hid (fun W hm hbar => parse_any S m W (by have := HSZ.out; omega) hm hbar)
      rw [HBS.out, HBK.out] at HP
      have HP := Lib.hid (show ∀ (W : World), W.cell? ⟨2, 0, none⟩ = some (.int .i64 m) → BarredAt W → Calls Tryz.prog 9 #[.string S] W fun e w' => e = .returned (.tuple #[.agg #[.int .u8 97, .string { data := #[] }, .string { data := #[] }], .int .i64 0]) ∧ Below W.heap.size W w' from HP.out)
      go_wp2_with fail
      refine (HP.out w3 (HMW.out _ P3.out) (HBAR.out.step P3.out)).mono ?_; rintro e w4 ⟨rfl, hb⟩
      have B4 := Lib.hid (B3.out.step hb B3.out.size)
      have P4 := Lib.hid (P3.out.step hb P3.out.size)
      have B5 := Lib.hid (B4.out.alloc B4.out.size (.cells #[.int .u8 97, .string { data := #[] }, .string { data := #[] }] 23))
      have P5 := Lib.hid (P4.out.alloc P4.out.size (.cells #[.int .u8 97, .string { data := #[] }, .string { data := #[] }] 23))
      clear hb k0 k1 k2
      obtain ⟨k0, k1, k2⟩ := HK.out _ B5.out
      have sn1 := gb_same n1
      have sv1 := gb_same v1
      go_wp2_with fail
      refine (HQ.out _).mono ?_; rintro e w6 ⟨rfl, hb⟩
      have P6 := Lib.hid (P5.out.step hb P5.out.size)
      clear hb k0 k1 k2 sn1 sv1
      go_wp2_with fail
      refine (HTA.out _).mono ?_; rintro e w7 ⟨rfl, hb⟩
      have P7 := Lib.hid (P6.out.step hb P6.out.size)
      have P8 := Lib.hid (P7.out.alloc P7.out.size (.cells #[.int .u8 81, .string ⟨(s ++ [0]).toArray⟩] 33))
      clear hb
      go_wp2_with fail
      refine (HDE.out _).mono ?_; rintro e w9 ⟨tv, nv, rfl, hT4, hN4, hb⟩
      have P9 := Lib.hid (P8.out.step hb P8.out.size)
      have HT4 := own_textsIn hT4
      obtain ⟨ta, tc, rfl⟩ := ownsRow_form hT4
      obtain ⟨na, nc, rfl⟩ := ownsRow_form hN4
      obtain ⟨_, _, _, htv, _, htc, htc2, hTc⟩ := HT4
      injection htv with e1 e2 e3
      subst e1 e2 e3
      rcases hTc with hTc | ⟨gt, ot, rfl, hgt, hTc⟩
      · cases hTc
      have t0 := hTc 0 _ rfl
      rw [Nat.add_zero] at t0
      rw [HSS.out] at t0
      clear hT4 hN4 hb hTc HTA HDE HQ HP
      simp only [List.length_cons, List.length_nil] at htc ⊢
      have htc' : (1 : Int) ≤ tc := by omega
      go_wp2_with fail
      go_ret
      exact ⟨rfl, P9.out.alloc P9.out.size _⟩
    · subst hk
      obtain rfl : i1 = 120 := HC1.out.symm
      have HP := Lib.hid (fun W hm hbar => parse_any S m W (by have := HSZ.out; omega) hm hbar)
      rw [HBS.out, HBK.out] at HP
      have HP := Lib.hid (show ∀ (W : World), W.cell? ⟨2, 0, none⟩ = some (.int .i64 m) → BarredAt W → Calls Tryz.prog 9 #[.string S] W fun e w' => e = .returned (.tuple #[.agg #[.int .u8 120, .string { data := #[] }, .string { data := #[] }], .int .i64 0]) ∧ Below W.heap.size W w' from HP.out)
      go_wp2_with fail
      refine (HP.out w3 (HMW.out _ P3.out) (HBAR.out.step P3.out)).mono ?_; rintro e w4 ⟨rfl, hb⟩
      have B4 := Lib.hid (B3.out.step hb B3.out.size)
      have P4 := Lib.hid (P3.out.step hb P3.out.size)
      have B5 := Lib.hid (B4.out.alloc B4.out.size (.cells #[.int .u8 120, .string { data := #[] }, .string { data := #[] }] 23))
      have P5 := Lib.hid (P4.out.alloc P4.out.size (.cells #[.int .u8 120, .string { data := #[] }, .string { data := #[] }] 23))
      clear hb k0 k1 k2
      obtain ⟨k0, k1, k2⟩ := HK.out _ B5.out
      have sn1 := gb_same n1
      have sv1 := gb_same v1
      go_wp2_with fail
      refine (HQ.out _).mono ?_; rintro e w6 ⟨rfl, hb⟩
      have P6 := Lib.hid (P5.out.step hb P5.out.size)
      clear hb k0 k1 k2 sn1 sv1
      go_wp2_with fail
      refine (HTA.out _).mono ?_; rintro e w7 ⟨rfl, hb⟩
      have P7 := Lib.hid (P6.out.step hb P6.out.size)
      have P8 := Lib.hid (P7.out.alloc P7.out.size (.cells #[.int .u8 81, .string ⟨(s ++ [0]).toArray⟩] 33))
      clear hb
      go_wp2_with fail
      refine (HDE.out _).mono ?_; rintro e w9 ⟨tv, nv, rfl, hT4, hN4, hb⟩
      have P9 := Lib.hid (P8.out.step hb P8.out.size)
      have HT4 := own_textsIn hT4
      obtain ⟨ta, tc, rfl⟩ := ownsRow_form hT4
      obtain ⟨na, nc, rfl⟩ := ownsRow_form hN4
      obtain ⟨_, _, _, htv, _, htc, htc2, hTc⟩ := HT4
      injection htv with e1 e2 e3
      subst e1 e2 e3
      rcases hTc with hTc | ⟨gt, ot, rfl, hgt, hTc⟩
      · cases hTc
      have t0 := hTc 0 _ rfl
      rw [Nat.add_zero] at t0
      rw [HSS.out] at t0
      clear hT4 hN4 hb hTc HTA HDE HQ HP
      simp only [List.length_cons, List.length_nil] at htc ⊢
      have htc' : (1 : Int) ≤ tc := by omega
      go_wp2_with fail
      go_ret
      exact ⟨rfl, P9.out.alloc P9.out.size _⟩
    · subst hk
      obtain rfl : i1 = 98 := HC1.out.symm
      have HP := Lib.hid (fun W hm hbar => parse_any S m W (by have := HSZ.out; omega) hm hbar)
      rw [HBS.out, HBK.out] at HP
      have HP := Lib.hid (show ∀ (W : World), W.cell? ⟨2, 0, none⟩ = some (.int .i64 m) → BarredAt W → Calls Tryz.prog 9 #[.string S] W fun e w' => e = .returned (.tuple #[.agg #[.int .u8 98, .string { data := #[] }, .string { data := #[] }], .int .i64 0]) ∧ Below W.heap.size W w' from HP.out)
      go_wp2_with fail
      refine (HP.out w3 (HMW.out _ P3.out) (HBAR.out.step P3.out)).mono ?_; rintro e w4 ⟨rfl, hb⟩
      have B4 := Lib.hid (B3.out.step hb B3.out.size)
      have P4 := Lib.hid (P3.out.step hb P3.out.size)
      have B5 := Lib.hid (B4.out.alloc B4.out.size (.cells #[.int .u8 98, .string { data := #[] }, .string { data := #[] }] 23))
      have P5 := Lib.hid (P4.out.alloc P4.out.size (.cells #[.int .u8 98, .string { data := #[] }, .string { data := #[] }] 23))
      clear hb k0 k1 k2
      obtain ⟨k0, k1, k2⟩ := HK.out _ B5.out
      have sn1 := gb_same n1
      have sv1 := gb_same v1
      go_wp2_with fail
      refine (HQ.out _).mono ?_; rintro e w6 ⟨rfl, hb⟩
      have P6 := Lib.hid (P5.out.step hb P5.out.size)
      clear hb k0 k1 k2 sn1 sv1
      go_wp2_with fail
      refine (HTA.out _).mono ?_; rintro e w7 ⟨rfl, hb⟩
      have P7 := Lib.hid (P6.out.step hb P6.out.size)
      have P8 := Lib.hid (P7.out.alloc P7.out.size (.cells #[.int .u8 81, .string ⟨(s ++ [0]).toArray⟩] 33))
      clear hb
      go_wp2_with fail
      refine (HDE.out _).mono ?_; rintro e w9 ⟨tv, nv, rfl, hT4, hN4, hb⟩
      have P9 := Lib.hid (P8.out.step hb P8.out.size)
      have HT4 := own_textsIn hT4
      obtain ⟨ta, tc, rfl⟩ := ownsRow_form hT4
      obtain ⟨na, nc, rfl⟩ := ownsRow_form hN4
      obtain ⟨_, _, _, htv, _, htc, htc2, hTc⟩ := HT4
      injection htv with e1 e2 e3
      subst e1 e2 e3
      rcases hTc with hTc | ⟨gt, ot, rfl, hgt, hTc⟩
      · cases hTc
      have t0 := hTc 0 _ rfl
      rw [Nat.add_zero] at t0
      rw [HSS.out] at t0
      clear hT4 hN4 hb hTc HTA HDE HQ HP
      simp only [List.length_cons, List.length_nil] at htc ⊢
      have htc' : (1 : Int) ≤ tc := by omega
      go_wp2_with fail
      go_ret
      exact ⟨rfl, P9.out.alloc P9.out.size _⟩
    · subst hk
      obtain rfl : i1 = 99 := HC1.out.symm
      have HP := Lib.hid (fun W hm hbar => parse_any S m W (by have := HSZ.out; omega) hm hbar)
      rw [HBS.out, HBK.out] at HP
      have HP := Lib.hid (show ∀ (W : World), W.cell? ⟨2, 0, none⟩ = some (.int .i64 m) → BarredAt W → Calls Tryz.prog 9 #[.string S] W fun e w' => e = .returned (.tuple #[.agg #[.int .u8 99, .string { data := #[] }, .string { data := #[] }], .int .i64 0]) ∧ Below W.heap.size W w' from HP.out)
      go_wp2_with fail
      refine (HP.out w3 (HMW.out _ P3.out) (HBAR.out.step P3.out)).mono ?_; rintro e w4 ⟨rfl, hb⟩
      have B4 := Lib.hid (B3.out.step hb B3.out.size)
      have P4 := Lib.hid (P3.out.step hb P3.out.size)
      have B5 := Lib.hid (B4.out.alloc B4.out.size (.cells #[.int .u8 99, .string { data := #[] }, .string { data := #[] }] 23))
      have P5 := Lib.hid (P4.out.alloc P4.out.size (.cells #[.int .u8 99, .string { data := #[] }, .string { data := #[] }] 23))
      clear hb k0 k1 k2
      obtain ⟨k0, k1, k2⟩ := HK.out _ B5.out
      have sn1 := gb_same n1
      have sv1 := gb_same v1
      go_wp2_with fail
      refine (HQ.out _).mono ?_; rintro e w6 ⟨rfl, hb⟩
      have P6 := Lib.hid (P5.out.step hb P5.out.size)
      clear hb k0 k1 k2 sn1 sv1
      go_wp2_with fail
      refine (HTA.out _).mono ?_; rintro e w7 ⟨rfl, hb⟩
      have P7 := Lib.hid (P6.out.step hb P6.out.size)
      have P8 := Lib.hid (P7.out.alloc P7.out.size (.cells #[.int .u8 81, .string ⟨(s ++ [0]).toArray⟩] 33))
      clear hb
      go_wp2_with fail
      refine (HDE.out _).mono ?_; rintro e w9 ⟨tv, nv, rfl, hT4, hN4, hb⟩
      have P9 := Lib.hid (P8.out.step hb P8.out.size)
      have HT4 := own_textsIn hT4
      obtain ⟨ta, tc, rfl⟩ := ownsRow_form hT4
      obtain ⟨na, nc, rfl⟩ := ownsRow_form hN4
      obtain ⟨_, _, _, htv, _, htc, htc2, hTc⟩ := HT4
      injection htv with e1 e2 e3
      subst e1 e2 e3
      rcases hTc with hTc | ⟨gt, ot, rfl, hgt, hTc⟩
      · cases hTc
      have t0 := hTc 0 _ rfl
      rw [Nat.add_zero] at t0
      rw [HSS.out] at t0
      clear hT4 hN4 hb hTc HTA HDE HQ HP
      simp only [List.length_cons, List.length_nil] at htc ⊢
      have htc' : (1 : Int) ≤ tc := by omega
      go_wp2_with fail
      go_ret
      exact ⟨rfl, P9.out.alloc P9.out.size _⟩
    · subst hk
      obtain rfl : i1 = 107 := HC1.out.symm
      have HP := Lib.hid (fun W hm hbar => parse_any S m W (by have := HSZ.out; omega) hm hbar)
      rw [HBS.out, HBK.out] at HP
      have HP := Lib.hid (show ∀ (W : World), W.cell? ⟨2, 0, none⟩ = some (.int .i64 m) → BarredAt W → Calls Tryz.prog 9 #[.string S] W fun e w' => e = .returned (.tuple #[.agg #[.int .u8 107, .string { data := #[] }, .string { data := #[] }], .int .i64 0]) ∧ Below W.heap.size W w' from HP.out)
      go_wp2_with fail
      refine (HP.out w3 (HMW.out _ P3.out) (HBAR.out.step P3.out)).mono ?_; rintro e w4 ⟨rfl, hb⟩
      have B4 := Lib.hid (B3.out.step hb B3.out.size)
      have P4 := Lib.hid (P3.out.step hb P3.out.size)
      have B5 := Lib.hid (B4.out.alloc B4.out.size (.cells #[.int .u8 107, .string { data := #[] }, .string { data := #[] }] 23))
      have P5 := Lib.hid (P4.out.alloc P4.out.size (.cells #[.int .u8 107, .string { data := #[] }, .string { data := #[] }] 23))
      clear hb k0 k1 k2
      obtain ⟨k0, k1, k2⟩ := HK.out _ B5.out
      have sn1 := gb_same n1
      have sv1 := gb_same v1
      go_wp2_with fail
      refine (HQ.out _).mono ?_; rintro e w6 ⟨rfl, hb⟩
      have P6 := Lib.hid (P5.out.step hb P5.out.size)
      clear hb k0 k1 k2 sn1 sv1
      go_wp2_with fail
      refine (HTA.out _).mono ?_; rintro e w7 ⟨rfl, hb⟩
      have P7 := Lib.hid (P6.out.step hb P6.out.size)
      have P8 := Lib.hid (P7.out.alloc P7.out.size (.cells #[.int .u8 81, .string ⟨(s ++ [0]).toArray⟩] 33))
      clear hb
      go_wp2_with fail
      refine (HDE.out _).mono ?_; rintro e w9 ⟨tv, nv, rfl, hT4, hN4, hb⟩
      have P9 := Lib.hid (P8.out.step hb P8.out.size)
      have HT4 := own_textsIn hT4
      obtain ⟨ta, tc, rfl⟩ := ownsRow_form hT4
      obtain ⟨na, nc, rfl⟩ := ownsRow_form hN4
      obtain ⟨_, _, _, htv, _, htc, htc2, hTc⟩ := HT4
      injection htv with e1 e2 e3
      subst e1 e2 e3
      rcases hTc with hTc | ⟨gt, ot, rfl, hgt, hTc⟩
      · cases hTc
      have t0 := hTc 0 _ rfl
      rw [Nat.add_zero] at t0
      rw [HSS.out] at t0
      clear hT4 hN4 hb hTc HTA HDE HQ HP
      simp only [List.length_cons, List.length_nil] at htc ⊢
      have htc' : (1 : Int) ≤ tc := by omega
      go_wp2_with fail
      go_ret
      exact ⟨rfl, P9.out.alloc P9.out.size _⟩
set_option maxRecDepth 100000 in
theorem back_lifted (os : Os) (started : os.Started) (H : Type) (enc : TypeId × Value → H) :
    ReturnsInHanded {} Tryz.checked os 3 .any (fun w args => (Rows.renderBackSpec.pre enc Tryz.prog Tryz.f3 Rows.renderBackRow.domain false w args ∧ laidMetH Tryz.prog [("unicode/utf8.acceptRanges", Rows.laid_unicode_utf8_acceptRanges), ("taxirank/names.taken", Rows.laid_taxirank_names_taken), ("taxirank/parse.barred", Rows.laid_taxirank_parse_barred), ("unicode/utf8.first", Rows.laid_unicode_utf8_first)] w) ∧ sizedMet enc Tryz.prog Tryz.f3 (OpenSpec.ofChange Rows.renderBackSpec) false w args) (Rows.renderBackSpec.post enc Tryz.prog Tryz.f3 false true false false) := by
  refine handed_laid (C := Tryz.checked) (X := fun w _ => laidMetH Tryz.prog [("unicode/utf8.acceptRanges", Rows.laid_unicode_utf8_acceptRanges), ("taxirank/names.taken", Rows.laid_taxirank_names_taken), ("taxirank/parse.barred", Rows.laid_taxirank_parse_barred), ("unicode/utf8.first", Rows.laid_unicode_utf8_first)] w) (fun _ _ _ hh h => h.of_heap hh) own started (by kernel_rfl) Tryz.func3
    (ChangeSpec.witness_shaped (enc := enc) (C := Tryz.checked) (os := os) (X := fun w _ => laidMetH Tryz.prog [("unicode/utf8.acceptRanges", Rows.laid_unicode_utf8_acceptRanges), ("taxirank/names.taken", Rows.laid_taxirank_names_taken), ("taxirank/parse.barred", Rows.laid_taxirank_parse_barred), ("unicode/utf8.first", Rows.laid_unicode_utf8_first)] w) false (World.laidAll Tryz.prog os [("unicode/utf8.acceptRanges", Rows.laid_unicode_utf8_acceptRanges), ("taxirank/names.taken", Rows.laid_taxirank_names_taken), ("taxirank/parse.barred", Rows.laid_taxirank_parse_barred), ("unicode/utf8.first", Rows.laid_unicode_utf8_first)]) #[.agg #[.int .u8 0, .string { data := #[] }, .string { data := #[] }]] 8 (World.laidAll_os _ _ _) (World.shaped_of_ZipB (by kernel_rfl) (by kernel_rfl)) (by kernel_rfl) (by kernel_rfl) (by kernel_rfl)
      (by rw [MakeChecks.laidMetH_plain _ _ _ (by kernel_rfl)]; exact laidMet_laidAll _ (by kernel_rfl) (by kernel_rfl))) ?_
  intro W base args ds gs before hval0 hW hsz0 hsh hL
  obtain ⟨m, hm⟩ : ∃ m, W.cell? ⟨2, 0, none⟩ = some (.int .i64 m) := Tryz.laysM143.s1_3 W hsh
  have hT := taken_of_four hL
  have hBar := barred_of_four hL
  have hsz : (DataW.weightsEach Tryz.prog (Tryz.f3.params.toList ++ Rows.renderBackSpec.plain.varTypes Tryz.prog) (ds ++ gs)).all (· ≤ reachBytes) = true := hsz0
  clear hsz0
  have hval : ∀ (j : Nat) t v, Tryz.f3.params[j]? = some t → args[j]? = some v → Value.okWide Tryz.prog W .any base t v := hval0
  have hW' := hW
  obtain ⟨p, q, hA0, hV, rfl, _, _⟩ := hW
  have hA : DataW.TrodAll enc Tryz.prog W 0 (fun _ => true) true Tryz.f3.params.toList args.toList ds p := hA0
  rw [Tryz.params3] at hA hval hsz
  obtain ⟨v0, d0, rfl, rfl, h0⟩ := trodAll_one hA
  obtain ⟨rfl, rfl⟩ := trodVars_none hV
  obtain ⟨ca, na, va, rfl, hwna, hwva⟩ := open_cmd (hval 0 23 v0 rfl rfl) h0
  have hzna : na.size ≤ 140737488351232 := by have := of_decide_eq_true (List.all_eq_true.1 hsz _ (DataW.weights_mem_each (j := 0) (t := 23) rfl rfl _ hwna)); rw [size_listG] at this; exact this
  have hzva : va.size ≤ 140737488351232 := by have := of_decide_eq_true (List.all_eq_true.1 hsz _ (DataW.weights_mem_each (j := 0) (t := 23) rfl rfl _ hwva)); rw [size_listG] at this; exact this
  refine (back_walk ca na va m W hzna hzva hm hT hBar).mono fun e W' ⟨he, hb⟩ => ?_
  subst he
  exact ⟨_, rfl, law_shut laidOut (by kernel_rfl) (by kernel_rfl) Tryz.underlying4 rfl hW' rfl hb⟩

theorem back_holds : Rows.RenderBackSaid :=
  OpenClaim.holds_of_wide 3 Tryz.f3 rfl rfl rfl rfl rfl rfl rfl ⟨rfl, rfl, rfl, rfl, rfl⟩ rfl rfl rfl rfl rfl (by kernel_rfl) Tryz.func3 (by kernel_rfl)
    (of_decide_eq_true (by kernel_rfl)) (by unfold Func.isWrapper; rw [if_neg (of_decide_eq_false (by kernel_rfl))]; exact ⟨rfl, rfl⟩)
    (fun os started H enc _ => back_lifted os started H enc)

theorem back_card : Rows.RenderBackCardSaid :=
  Claim7.holds_tied_plain_at .later [] [.data, .data, .data, .pinned] true _ false back_holds (fun _ h => by cases h) (by kernel_rfl) (fun _ h => by cases h) renderBack_row_tie rfl ⟨rfl, rfl⟩ (by kernel_rfl) rfl
    (fun f fn hf hfn => by
      obtain rfl : f = 3 := Option.some.inj ((show Tryz.prog.funcNamed "taxirank/taxiranklaw13.RenderBack" = some 3 by kernel_rfl).symm.trans hf) |>.symm
      obtain rfl : fn = Tryz.f3 := (Option.some.inj (Tryz.func3.symm.trans hfn)).symm
      exact ⟨by kernel_rfl, fun j t ht => by
        rw [Tryz.params3] at ht
        have hm : t ∈ [23] := by simpa using Array.mem_of_getElem? ht
        have hall : ([23].all fun u => !Tryz.prog.wantsStandIn u) = true := by kernel_rfl
        exact (show Tryz.prog.wantsStandIn t = false by simpa using List.all_eq_true.1 hall t hm)⟩)
    (by kernel_rfl)
end Go.Proofs.YtpijolcklmdjbaaGreatDoor
