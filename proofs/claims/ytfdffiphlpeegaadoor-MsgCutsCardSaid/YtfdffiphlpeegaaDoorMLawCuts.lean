/- Any direction, any message, any place to cut at: MsgCuts answers true, and leaves what was there as it was. -/
import Derived.Test.YtfdffiphlpeegaaDoorMCutsM
namespace Go.Proofs.YtfdffiphlpeegaaDoor
open Go.RowKit Go.Lib Go.WideShapes Go.ChangeShapes Go.ChangeAt Go.Joins

set_option maxRecDepth 100000 in
set_option maxHeartbeats 16000000 in
theorem cuts_walk (w : World) (back : Bool) (c1 : UInt8) (T1 : List Bs) (N1 : List Int) (tv1 nv1 : Value) (at' : Int) (hat : -9223372036854775808 ≤ at' ∧ at' ≤ 9223372036854775807) (hT1 : TextsIn w tv1 T1) (hN1 : NumsIn w nv1 N1) (hz1 : ∀ t ∈ T1, t.length ≤ 140737488351232) :
    Calls Tryd.prog 5 #[.bool back, .agg #[.int .u8 (c1.toNat : Nat), tv1, nv1], .int .i64 at'] w fun e w' => e = .returned (.bool true) ∧ Below w.heap.size w w' := by
  have H1 := Lib.hid hT1; have H2 := Lib.hid hN1
  have Z1 := Lib.hid hz1
  obtain ⟨a1, n1, s1, rfl, -⟩ := hT1
  obtain ⟨b1, m1, r1, rfl, -⟩ := hN1
  obtain ⟨W0, hW0⟩ : ∃ x, x = w.alloc (.cells #[.int .u8 (c1.toNat : Nat), .slice a1 n1 s1, .slice b1 m1 r1] 28) := ⟨_, rfl⟩
  have hsz : W0.heap.size = w.heap.size + 1 := by rw [hW0]; simp
  have HB := Lib.hid (show Below w.heap.size w W0 by rw [hW0]; exact (Below.refl _ _).alloc (Nat.le_refl _) _)
  have HC := Lib.hid (show ∀ W, Below W0.heap.size W0 W → W.cell? ⟨w.heap.size, 0, none⟩ = some (.int .u8 (c1.toNat : Nat)) ∧ W.cell? ⟨w.heap.size, 1, none⟩ = some (.slice a1 n1 s1) ∧ W.cell? ⟨w.heap.size, 2, none⟩ = some (.slice b1 m1 r1) from by
    intro W hW
    have k : ∀ q i, q < W0.heap.size → W.cell? ⟨q, i, none⟩ = W0.cell? ⟨q, i, none⟩ := fun q i h => hW.cell (p := ⟨q, i, none⟩) h
    refine ⟨(k _ _ (by omega)).trans ?_, (k _ _ (by omega)).trans ?_, (k _ _ (by omega)).trans ?_⟩ <;> (rw [hW0]; simp [go_sem]))
  have HE := Lib.hid hW0
  obtain ⟨R1, hR1⟩ : ∃ R, R = written back c1 T1 N1 := ⟨_, rfl⟩
  have HR1 := Lib.hid hR1
  have HAT := Lib.hid hat
  clear hW0 hsz hz1 hR1 hat
  go_enter Tryd.func5, Tryd.ntmps5
  go_wp2_with fail
  rw [← HE.out]
  refine (shown_any _).mono ?_; rintro e w1 ⟨rfl, hb⟩
  have B1 := Lib.hid hb
  have P1 := Lib.hid (HB.out.step hb HB.out.size)
  obtain ⟨k0, k1, k2⟩ := HC.out w1 B1.out
  clear hb
  go_wp2_with fail
  refine (few_any w1 c1 T1 N1 _ _ (H1.out.mono P1.out) (H2.out.mono P1.out) Z1.out).mono ?_; rintro e w2 ⟨rfl, hb⟩
  have B2 := Lib.hid (B1.out.step hb B1.out.size)
  have P2 := Lib.hid (P1.out.step hb P1.out.size)
  clear hb k0 k1 k2
  obtain ⟨k0, k1, k2⟩ := HC.out w2 B2.out
  by_cases hf1 : fewB T1 N1 = false
  · rw [hf1]
    go_wp2_with fail
    go_ret
    exact ⟨rfl, P2.out⟩
  have e1 : fewB T1 N1 = true := by simpa using hf1
  have F1 := Lib.hid (room_few (of_decide_eq_true e1))
  rw [e1]
  clear hf1 e1
  go_wp2_with fail
  refine (encode_any w2 back c1 T1 N1 _ _ (H1.out.mono P2.out) (H2.out.mono P2.out) F1.out).mono ?_; rintro e w3 ⟨rfl, hb⟩
  rw [← HR1.out, encV_form]
  have B3 := Lib.hid (B2.out.step hb B2.out.size)
  have P3 := Lib.hid (P2.out.step hb P2.out.size)
  clear hb k0 k1 k2
  rcases encE_cases R1 with h1 | h1 | h1
  rotate_left
  · rw [h1]
    generalize encX c1 R1 = X1
    generalize encB R1 = Y1
    clear h1
    go_wp2_with fail
    go_ret
    exact ⟨rfl, P3.out.alloc P3.out.size _⟩
  · rw [h1]
    generalize encX c1 R1 = X1
    generalize encB R1 = Y1
    clear h1
    go_wp2_with fail
    go_ret
    exact ⟨rfl, P3.out.alloc P3.out.size _⟩
  obtain ⟨Bd, hBd, hBl⟩ := encE_zero h1
  have HWB := Lib.hid (show written back c1 T1 N1 = some Bd by rw [← HR1.out]; exact hBd)
  rw [h1, show encX c1 R1 = (c1.toNat : Nat) from if_pos h1, show encB R1 = (⟨Bd.toArray⟩ : ByteArray) from by rw [show encB R1 = (⟨(R1.getD []).toArray⟩ : ByteArray) from if_pos h1, hBd]; rfl]
  have HBl := Lib.hid hBl
  obtain ⟨yb, hyb⟩ : ∃ yb : ByteArray, yb = ⟨Bd.toArray⟩ := ⟨_, rfl⟩
  have hys : yb.size = Bd.length := by rw [hyb, bsize]
  have HYS := Lib.hid hys
  have hy1 : yb.size ≤ 10000 := by rw [hys]; exact hBl
  have HDL := Lib.hid (show ∀ W, Calls Tryd.prog 9 #[.bool back, .agg #[.int .u8 (c1.toNat : Nat), .string (yb ++ { data := #[0] })]] W (MsgOut W c1 2 none) from fun W => by
    have h := decode_any W back c1 (Bd ++ [0]) (by rw [List.length_append]; simp; omega)
    rw [show readD back c1 (Bd ++ [0]) = none from by
      unfold readD
      split
      · rfl
      · exact read_longer HWB.out] at h
    rw [show (yb ++ { data := #[0] } : ByteArray) = ⟨(Bd ++ [0]).toArray⟩ by rw [hyb]; apply ByteArray.ext; simp]
    exact h)
  have HDK := Lib.hid (show ∀ (K : Nat) W, Calls Tryd.prog 9 #[.bool back, .agg #[.int .u8 (c1.toNat : Nat), .string (yb.extract 0 K)]] W (MsgOut W c1 2 (readD back c1 (Bd.take K))) from fun K W => by
    have h := decode_any W back c1 (Bd.take K) (by rw [List.length_take]; omega)
    rw [← take_list, ← hyb] at h
    exact h)
  rw [← hyb]
  clear h1 hBd hBl hyb hys
  have B4 := Lib.hid (B3.out.alloc B3.out.size (.cells #[.int .u8 (c1.toNat : Nat), .string yb] 23))
  have P4 := Lib.hid (P3.out.alloc P3.out.size (.cells #[.int .u8 (c1.toNat : Nat), .string yb] 23))
  have z4 : w3.heap.size < (w3.alloc (.cells #[.int .u8 (c1.toNat : Nat), .string yb] 23)).heap.size := by simp
  have C4 := Lib.hid (show (w3.alloc (.cells #[.int .u8 (c1.toNat : Nat), .string yb] 23)).cell? ⟨w3.heap.size, 0, none⟩ = some (.int .u8 (c1.toNat : Nat)) ∧ (w3.alloc (.cells #[.int .u8 (c1.toNat : Nat), .string yb] 23)).cell? ⟨w3.heap.size, 1, none⟩ = some (.string yb) from ⟨World.cell?_alloc_new _ _ _ _, World.cell?_alloc_new _ _ _ _⟩)
  have hat := HAT.out
  go_upto_if 42 with (fail)
  generalize w3.alloc (.cells #[.int .u8 (c1.toNat : Nat), .string yb] 23) = w4 at B4 P4 C4 z4 ⊢
  have HC4 := Lib.hid (show ∀ W, Below w4.heap.size w4 W → W.cell? ⟨w3.heap.size, 0, none⟩ = some (.int .u8 (c1.toNat : Nat)) ∧ W.cell? ⟨w3.heap.size, 1, none⟩ = some (.string yb) from fun W hW => ⟨(hW.cell (p := ⟨w3.heap.size, 0, none⟩) z4).trans C4.out.1, (hW.cell (p := ⟨w3.heap.size, 1, none⟩) z4).trans C4.out.2⟩)
  clear C4
  go_cut [11] (fun s wx => ∃ I : Int, s = .int .i64 I ∧ 0 ≤ I ∧ I ≤ 9223372036854775807 ∧ w4 = wx)
  case first => as_aux_lemma =>
    go_wp2_with fail
    all_goals go_meet
    all_goals exact ⟨_, rfl, by omega, by omega, rfl⟩
  case rest =>
  obtain ⟨I, rfl, hI0, hI9, rfl⟩ := hcut
  obtain ⟨K, hKI⟩ : ∃ K : Nat, I.tmod (↑yb.size + 1) = (K : Nat) ∧ K ≤ yb.size := by
    refine ⟨(I.tmod (↑yb.size + 1)).toNat, ?_, ?_⟩ <;> (rw [Int.tmod_eq_emod_of_nonneg hI0]; have := Int.emod_nonneg I (show (↑yb.size + 1 : Int) ≠ 0 by omega); have := Int.emod_lt_of_pos I (show (0 : Int) < ↑yb.size + 1 by omega); omega)
  have HKY := Lib.hid hKI.2
  have hmod := hKI.1
  have hK := hKI.2
  have hsum : IntKind.i64.wrap (↑yb.size + 1) = ↑yb.size + 1 := by have h := wrap_i64_small (yb.size + 1) (by omega); rwa [Int.natCast_add] at h
  clear hKI hat
  obtain ⟨d0, d1⟩ := HC4.out _ (Below.refl _ _)
  go_upto_region 11 with (fail)
  have hne : ¬ (↑yb.size + 1 : Int) = 0 := by omega
  have HS4 := Lib.hid (show ∀ W, Below w4.heap.size w4 W → (W.cell? ⟨w3.heap.size, 0, none⟩ = some (.int .u8 (c1.toNat : Nat)) ∧ W.cell? ⟨w3.heap.size, 1, none⟩ = some (.string yb)) ∧ Below w4.heap.size w4 W from fun W hW => ⟨HC4.out W hW, hW⟩)
  go_cut [12, 13] (fun s t wx => ∃ wy, CutAt w4 (c1.toNat : Nat) (readD back c1 (Bd.take K)) s t wy ∧ wy = wx)
  case first =>
    cases hRK : readD back c1 (Bd.take K) with
    | none =>
      have HDa := Lib.hid (show Calls Tryd.prog 9 #[.bool back, .agg #[.int .u8 (c1.toNat : Nat), .string (yb.extract 0 K)]] w4.drew (fun e w5 => e = .returned (.tuple #[.agg #[.int .u8 0, .slice none 0 0, .slice none 0 0], .int .i64 2]) ∧ Below w4.heap.size w4 w5) from by
        have h := HDK.out K w4.drew; rw [hRK] at h
        refine Calls.mono h ?_; rintro e w5 ⟨rfl, hb⟩
        exact ⟨rfl, (Below.refl w4.heap.size w4).drew.step hb (Nat.le_refl _)⟩)
      have HDb := Lib.hid (show Calls Tryd.prog 9 #[.bool back, .agg #[.int .u8 (c1.toNat : Nat), .string (yb.extract 0 K)]] (w4.alloc (.cells #[.int .u8 0, .slice none 0 0, .slice none 0 0] 28)).drew (fun e w5 => e = .returned (.tuple #[.agg #[.int .u8 0, .slice none 0 0, .slice none 0 0], .int .i64 2]) ∧ Below w4.heap.size w4 w5 ∧ (∀ i : Nat, w5.cell? ⟨w4.heap.size, i, none⟩ = (#[.int .u8 0, .slice none 0 0, .slice none 0 0] : Array Value)[i]?) ∧ (∀ i : Nat, w5.frozen? ⟨w4.heap.size, i, none⟩ = false) ∧ w4.heap.size < w5.heap.size) from by
        have h := HDK.out K (w4.alloc (.cells #[.int .u8 0, .slice none 0 0, .slice none 0 0] 28)).drew; rw [hRK] at h
        refine Calls.mono h ?_; rintro e w5 ⟨rfl, hb⟩
        exact ⟨rfl, cut_before (w4 := w4) hb⟩)
      have HRK := Lib.hid hRK
      clear hRK
      go_region_held3 (fun W => (W.cell? ⟨w3.heap.size, 0, none⟩ = some (.int .u8 (c1.toNat : Nat)) ∧ W.cell? ⟨w3.heap.size, 1, none⟩ = some (.string yb)) ∧ Below w4.heap.size w4 W) ((refine HS4.out _ ?_; repeat (first | assumption | exact Below.refl _ _ | (with_reducible refine Below.drew ?_) | (with_reducible refine Below.alloc ?_ (by first | exact Nat.le_refl _ | exact hB.size | simp) _) | (with_reducible refine Below.setCell ?_ (by first | exact Nat.le_refl _ | exact hB.size | (simp; omega)) _))))
        (first | (go_at_call 9; first | (with_reducible refine HDa.out.mono ?_; rintro e w5 ⟨rfl, hB⟩) | (with_reducible refine HDb.out.mono ?_; rintro e w5 ⟨rfl, hB, x0, x1, hz⟩)))
      all_goals go_wp2_with fail
      all_goals go_meet
      all_goals refine ⟨_, ?_, rfl⟩
      all_goals rw [HRK.out]
      all_goals first | exact ⟨_, rfl, hB.alloc hB.size _, rfl⟩ | exact ⟨_, rfl, ((hB.setCell (Nat.le_refl _) _).setCell (Nat.le_refl _) _).setCell (Nat.le_refl _) _, rfl⟩
    | some p =>
      have HDa := Lib.hid (show Calls Tryd.prog 9 #[.bool back, .agg #[.int .u8 (c1.toNat : Nat), .string (yb.extract 0 K)]] w4.drew (fun e w5 => ∃ ta tc na nc, e = .returned (.tuple #[.agg #[.int .u8 (c1.toNat : Nat), .slice ta p.1.length tc, .slice na p.2.length nc], .int .i64 0]) ∧ Below w4.heap.size w4 w5 ∧ TextsIn w5 (.slice ta p.1.length tc) p.1 ∧ NumsIn w5 (.slice na p.2.length nc) p.2) from by
        have h := HDK.out K w4.drew; rw [hRK] at h
        refine Calls.mono h ?_; rintro e w5 ⟨tv, nv, rfl, hT, hN, hb⟩
        have h1 := own_textsIn hT; have h2 := own_numsIn hN
        obtain ⟨ta, tc, rfl⟩ := ownsRow_form hT
        obtain ⟨na, nc, rfl⟩ := ownsRow_form hN
        exact ⟨ta, tc, na, nc, rfl, (Below.refl w4.heap.size w4).drew.step hb (Nat.le_refl _), h1, h2⟩)
      have HDb := Lib.hid (show Calls Tryd.prog 9 #[.bool back, .agg #[.int .u8 (c1.toNat : Nat), .string (yb.extract 0 K)]] (w4.alloc (.cells #[.int .u8 0, .slice none 0 0, .slice none 0 0] 28)).drew (fun e w5 => ∃ ta tc na nc, e = .returned (.tuple #[.agg #[.int .u8 (c1.toNat : Nat), .slice ta p.1.length tc, .slice na p.2.length nc], .int .i64 0]) ∧ (Below w4.heap.size w4 w5 ∧ (∀ i : Nat, w5.cell? ⟨w4.heap.size, i, none⟩ = (#[.int .u8 0, .slice none 0 0, .slice none 0 0] : Array Value)[i]?) ∧ (∀ i : Nat, w5.frozen? ⟨w4.heap.size, i, none⟩ = false) ∧ w4.heap.size < w5.heap.size) ∧ w5.ownsRow (w4.heap.size + 1) 9 1 (.slice ta p.1.length tc) p.1.length (tcells p.1) ∧ w5.ownsRow (w4.heap.size + 1) 3 1 (.slice na p.2.length nc) p.2.length (ncells p.2)) from by
        have h := HDK.out K (w4.alloc (.cells #[.int .u8 0, .slice none 0 0, .slice none 0 0] 28)).drew; rw [hRK] at h
        have hsz : (w4.alloc (.cells #[.int .u8 0, .slice none 0 0, .slice none 0 0] 28)).drew.heap.size = w4.heap.size + 1 := by simp
        refine Calls.mono h ?_; rintro e w5 ⟨tv, nv, rfl, hT, hN, hb⟩
        obtain ⟨ta, tc, rfl⟩ := ownsRow_form hT
        obtain ⟨na, nc, rfl⟩ := ownsRow_form hN
        have hc := cut_before (w4 := w4) hb
        rw [hsz] at hT hN
        exact ⟨ta, tc, na, nc, rfl, hc, hT, hN⟩)
      have HRK := Lib.hid hRK
      clear hRK
      obtain ⟨T2, N2⟩ := p
      go_region_held3 (fun W => (W.cell? ⟨w3.heap.size, 0, none⟩ = some (.int .u8 (c1.toNat : Nat)) ∧ W.cell? ⟨w3.heap.size, 1, none⟩ = some (.string yb)) ∧ Below w4.heap.size w4 W) ((refine HS4.out _ ?_; repeat (first | assumption | exact Below.refl _ _ | (with_reducible refine Below.drew ?_) | (with_reducible refine Below.alloc ?_ (by first | exact Nat.le_refl _ | exact hB.size | simp) _) | (with_reducible refine Below.setCell ?_ (by first | exact Nat.le_refl _ | exact hB.size | (simp; omega)) _))))
        (first | (go_at_call 9; first | (with_reducible refine HDa.out.mono ?_; rintro e w5 ⟨ta, tc, na, nc, rfl, hB, hT, hN⟩; have HT := Lib.hid hT; have HN := Lib.hid hN; clear hT hN) | (with_reducible refine HDb.out.mono ?_; rintro e w5 ⟨ta, tc, na, nc, rfl, ⟨hB, x0, x1, hz⟩, hT, hN⟩; have HT := Lib.hid hT; have HN := Lib.hid hN; clear hT hN)))
      all_goals go_wp2_with fail
      all_goals go_meet
      all_goals refine ⟨_, ?_, rfl⟩
      all_goals rw [HRK.out]
      all_goals first | exact cut_old hB HT.out HN.out | exact cut_new hB x0 hz HT.out HN.out
  case rest =>
    obtain ⟨w6, ⟨g, rfl, hB6, hq⟩, rfl⟩ := hcut
    have B6 := Lib.hid (B4.out.step hB6 B4.out.size)
    have P6 := Lib.hid (P4.out.step hB6 P4.out.size)
    have D6 := Lib.hid hB6
    clear hB6 d0 d1
    cases hRK : readD back c1 (Bd.take K) with
    | none =>
      rw [hRK] at hq
      obtain rfl := hq
      clear hRK
      go_upto_region 12 with (fail)
      go_quiet (fail)
      have D7 := Lib.hid (show Below w4.heap.size w4 (w6.drewN nq) from below_drewN D6.out nq)
      have P7 := Lib.hid (show Below w.heap.size w (w6.drewN nq) from below_drewN P6.out nq)
      obtain ⟨d0, d1⟩ := HC4.out _ D7.out
      go_wp2_with fail
      refine (HDL.out _).mono ?_; rintro e w9 ⟨rfl, hb⟩
      have P9 := Lib.hid (P7.out.step hb P7.out.size)
      clear hb d0 d1
      go_wp2_with fail
      go_ret
      exact ⟨rfl, P9.out.alloc P9.out.size _⟩
    | some p =>
      obtain ⟨T2, N2⟩ := p
      rw [hRK] at hq
      obtain ⟨rfl, hg, ta, tc, na, nc, e0, e1, e2, hT, hN⟩ := hq
      have HT6 := Lib.hid hT; have HN6 := Lib.hid hN
      have hsame := cut_same HWB.out hRK (by have := HKY.out; have := HYS.out; omega)
      rw [← HYS.out] at hsame
      have E6 := Lib.hid (show w6.cell? ⟨g, 0, none⟩ = some (.int .u8 (c1.toNat : Nat)) ∧ w6.cell? ⟨g, 1, none⟩ = some (.slice ta T2.length tc) ∧ w6.cell? ⟨g, 2, none⟩ = some (.slice na N2.length nc) from ⟨e0, e1, e2⟩)
      have HG := Lib.hid hg
      have HSAME := Lib.hid hsame
      clear hT hN hRK hsame e0 e1 e2 hg
      have HSS := Lib.hid (show ∀ W, Below w6.heap.size w6 W → ((W.cell? ⟨g, 0, none⟩ = some (.int .u8 (c1.toNat : Nat)) ∧ W.cell? ⟨g, 1, none⟩ = some (.slice ta T2.length tc) ∧ W.cell? ⟨g, 2, none⟩ = some (.slice na N2.length nc)) ∧ (W.cell? ⟨w.heap.size, 0, none⟩ = some (.int .u8 (c1.toNat : Nat)) ∧ W.cell? ⟨w.heap.size, 1, none⟩ = some (.slice a1 n1 s1) ∧ W.cell? ⟨w.heap.size, 2, none⟩ = some (.slice b1 m1 r1)) ∧ (W.cell? ⟨w3.heap.size, 0, none⟩ = some (.int .u8 (c1.toNat : Nat)) ∧ W.cell? ⟨w3.heap.size, 1, none⟩ = some (.string yb))) ∧ Below w6.heap.size w6 W from by
        intro W hW
        have hc := HC.out W (B6.out.step hW B6.out.size)
        have h4 := HC4.out W (D6.out.step hW D6.out.size)
        have k : ∀ i, W.cell? ⟨g, i, none⟩ = w6.cell? ⟨g, i, none⟩ := fun i => hW.cell (p := ⟨g, i, none⟩) HG.out
        exact ⟨⟨⟨(k 0).trans E6.out.1, (k 1).trans E6.out.2.1, (k 2).trans E6.out.2.2⟩, hc, h4⟩, hW⟩)
      have HSA := Lib.hid (show ∀ W, Below w6.heap.size w6 W → Calls Tryd.prog 12 #[.agg #[.int .u8 (c1.toNat : Nat), .slice ta T2.length tc, .slice na N2.length nc], .agg #[.int .u8 (c1.toNat : Nat), .slice a1 n1 s1, .slice b1 m1 r1]] W fun e w' => e = .returned (.bool (decide (K = yb.size))) ∧ Below W.heap.size W w' from fun W hW => by
        have hP := P6.out.step hW P6.out.size
        have := same_any W c1 c1 T2 T1 N2 N1 _ _ _ _ (HT6.out.mono hW) (HN6.out.mono hW) (H1.out.mono hP) (H2.out.mono hP)
        rw [HSAME.out] at this
        exact this)
      have HSTEP := Lib.hid (show ∀ W W', Below w6.heap.size w6 W → Below W.heap.size W W' → ((W'.cell? ⟨g, 0, none⟩ = some (.int .u8 (c1.toNat : Nat)) ∧ W'.cell? ⟨g, 1, none⟩ = some (.slice ta T2.length tc) ∧ W'.cell? ⟨g, 2, none⟩ = some (.slice na N2.length nc)) ∧ (W'.cell? ⟨w.heap.size, 0, none⟩ = some (.int .u8 (c1.toNat : Nat)) ∧ W'.cell? ⟨w.heap.size, 1, none⟩ = some (.slice a1 n1 s1) ∧ W'.cell? ⟨w.heap.size, 2, none⟩ = some (.slice b1 m1 r1)) ∧ (W'.cell? ⟨w3.heap.size, 0, none⟩ = some (.int .u8 (c1.toNat : Nat)) ∧ W'.cell? ⟨w3.heap.size, 1, none⟩ = some (.string yb))) ∧ Below w6.heap.size w6 W' from fun W W' h hb => HSS.out W' (h.step hb h.size))
      have S0 := HSS.out w6 (Below.refl _ _)
      obtain ⟨bq, hbq⟩ : ∃ bq : Bool, bq = decide (K = yb.size) := ⟨_, rfl⟩
      have hbq2 : decide ((K : Int) = (yb.size : Nat)) = bq := by rw [hbq]; exact decide_eq_decide.2 (by omega)
      have hbq3 : ((K : Int) == (yb.size : Nat)) = bq := by
        rw [← hbq2]; first | rfl | (by_cases h : (K : Int) = (yb.size : Nat) <;> simp [h])
      have hbq4 : (bq != bq) = false := by cases bq <;> rfl
      rw [← hbq] at HSA
      clear hbq
      go_upto_region 12 with (fail)
      go_region_held3 (fun W => ((W.cell? ⟨g, 0, none⟩ = some (.int .u8 (c1.toNat : Nat)) ∧ W.cell? ⟨g, 1, none⟩ = some (.slice ta T2.length tc) ∧ W.cell? ⟨g, 2, none⟩ = some (.slice na N2.length nc)) ∧ (W.cell? ⟨w.heap.size, 0, none⟩ = some (.int .u8 (c1.toNat : Nat)) ∧ W.cell? ⟨w.heap.size, 1, none⟩ = some (.slice a1 n1 s1) ∧ W.cell? ⟨w.heap.size, 2, none⟩ = some (.slice b1 m1 r1)) ∧ (W.cell? ⟨w3.heap.size, 0, none⟩ = some (.int .u8 (c1.toNat : Nat)) ∧ W.cell? ⟨w3.heap.size, 1, none⟩ = some (.string yb))) ∧ Below w6.heap.size w6 W) (first | exact S3 | exact S2 | exact S1 | exact ⟨S0.1, S0.2.drew⟩)
        (first | (go_at_call 13; refine (as_any _ _ _ _ _ _ _ _).mono ?_; rintro e w8 ⟨rfl, hb8⟩; have S1 := HSTEP.out w6.drew w8 S0.2.drew hb8) | (go_at_call 13; refine (as_any _ _ _ _ _ _ _ _).mono ?_; rintro e w9 ⟨rfl, hb9⟩; have S2 := HSTEP.out _ w9 S1.2 hb9) | (go_at_call 12; refine (HSA.out _ S2.2).mono ?_; rintro e wx ⟨rfl, hbx⟩; have S3 := HSTEP.out _ wx S2.2 hbx))
      have BX := Lib.hid (D6.out.step S3.2 D6.out.size)
      have PX := Lib.hid (P6.out.step S3.2 P6.out.size)
      clear S0 S1 S2 S3 hb8 hb9 hbx
      cases bq with
      | false =>
        obtain ⟨d0, d1⟩ := HC4.out _ BX.out
        go_wp2_with fail
        refine (HDL.out _).mono ?_; rintro e w9 ⟨rfl, hb⟩
        have P9 := Lib.hid (PX.out.step hb PX.out.size)
        clear hb d0 d1
        go_wp2_with fail
        go_ret
        exact ⟨rfl, P9.out.alloc P9.out.size _⟩
      | true =>
        obtain ⟨d0, d1⟩ := HC4.out _ BX.out
        go_wp2_with fail
        refine (HDL.out _).mono ?_; rintro e w9 ⟨rfl, hb⟩
        have P9 := Lib.hid (PX.out.step hb PX.out.size)
        clear hb d0 d1
        go_wp2_with fail
        go_ret
        exact ⟨rfl, P9.out.alloc P9.out.size _⟩
set_option maxRecDepth 100000 in
theorem cuts_lifted (os : Os) (started : os.Started) (H : Type) (enc : TypeId × Value → H) :
    ReturnsInHanded {} Tryd.checked os 5 .any (fun w args => (Rows.msgCutsSpec.pre enc Tryd.prog Tryd.f5 Rows.msgCutsRow.domain false w args ∧ laidMetH Tryd.prog [("unicode/utf8.acceptRanges", Rows.laid_unicode_utf8_acceptRanges), ("unicode/utf8.first", Rows.laid_unicode_utf8_first)] w) ∧ sizedMet enc Tryd.prog Tryd.f5 (OpenSpec.ofChange Rows.msgCutsSpec) false w args) (Rows.msgCutsSpec.post enc Tryd.prog Tryd.f5 false true false false) := by
  refine handed_laid (C := Tryd.checked) (X := fun w _ => laidMetH Tryd.prog [("unicode/utf8.acceptRanges", Rows.laid_unicode_utf8_acceptRanges), ("unicode/utf8.first", Rows.laid_unicode_utf8_first)] w) (fun _ _ _ hh h => h.of_heap hh) own started (by kernel_rfl) Tryd.func5
    (ChangeSpec.witness_shaped (enc := enc) (C := Tryd.checked) (os := os) (X := fun w _ => laidMetH Tryd.prog [("unicode/utf8.acceptRanges", Rows.laid_unicode_utf8_acceptRanges), ("unicode/utf8.first", Rows.laid_unicode_utf8_first)] w) false (World.laidAll Tryd.prog os [("unicode/utf8.acceptRanges", Rows.laid_unicode_utf8_acceptRanges), ("unicode/utf8.first", Rows.laid_unicode_utf8_first)]) #[.bool false, .agg #[.int .u8 0, .slice none 0 0, .slice none 0 0], .int .i64 0] 8 (World.laidAll_os _ _ _) (World.shaped_of_ZipB (by kernel_rfl) (by kernel_rfl)) (by kernel_rfl) (by kernel_rfl) (by kernel_rfl)
      (by rw [MakeChecks.laidMetH_plain _ _ _ (by kernel_rfl)]; exact laidMet_laidAll _ (by kernel_rfl) (by kernel_rfl))) ?_
  intro W base args ds gs before hval0 hW hsz0 _ _
  have hsz : (DataW.weightsEach Tryd.prog (Tryd.f5.params.toList ++ Rows.msgCutsSpec.plain.varTypes Tryd.prog) (ds ++ gs)).all (· ≤ reachBytes) = true := hsz0
  clear hsz0
  have hval : ∀ (j : Nat) t v, Tryd.f5.params[j]? = some t → args[j]? = some v → Value.okWide Tryd.prog W .any base t v := hval0
  have hW' := hW
  obtain ⟨p, q, hA0, hV, rfl, _, _⟩ := hW
  have hA : DataW.TrodAll enc Tryd.prog W 0 (fun _ => true) true Tryd.f5.params.toList args.toList ds p := hA0
  rw [Tryd.params5] at hA hval hsz
  obtain ⟨v0, v1, v2, d0, d1, d2, p0, p1, p2, rfl, rfl, rfl, h0, h1, h2⟩ := trodAll_three hA
  obtain ⟨rfl, rfl⟩ := trodVars_none hV
  obtain ⟨back, rfl, rfl, rfl⟩ := open_bool Tryd.underlying4 (hval 0 4 v0 rfl rfl) h0
  obtain ⟨c1, tv1, nv1, T1, N1, rfl, hT1, hN1, hw1, hr1⟩ := open_msg (hval 1 28 v1 rfl rfl) h1
  have hz1 : ∀ t ∈ T1, t.length ≤ 140737488351232 := fun t ht => of_decide_eq_true (List.all_eq_true.1 hsz _ (DataW.weights_mem_each (j := 1) (t := 28) rfl rfl _ (hw1 t ht)))
  obtain ⟨at', rfl, rfl, rfl, wf_at'⟩ := open_int Tryd.underlying3 (hval 2 3 v2 rfl rfl) h2
  have h_at' := int_range wf_at'
  refine (cuts_walk W back c1 T1 N1 tv1 nv1 at' h_at' hT1 hN1 hz1).mono fun e W' ⟨he, hb⟩ => ?_
  subst he
  exact ⟨_, rfl, law_shut laidOut (by kernel_rfl) (by kernel_rfl) Tryd.underlying4 rfl hW' rfl hb⟩

theorem cuts_holds : Rows.MsgCutsSaid :=
  OpenClaim.holds_of_wide 5 Tryd.f5 rfl rfl rfl rfl rfl rfl rfl ⟨rfl, rfl, rfl, rfl, rfl⟩ rfl rfl rfl rfl rfl (by kernel_rfl) Tryd.func5 (by kernel_rfl)
    (of_decide_eq_true (by kernel_rfl)) (by unfold Func.isWrapper; rw [if_neg (of_decide_eq_false (by kernel_rfl))]; exact ⟨rfl, rfl⟩)
    (fun os started H enc _ => cuts_lifted os started H enc)

theorem cuts_card : Rows.MsgCutsCardSaid :=
  Claim7.holds_tied_plain_at .later [] [.data, .pinned] true _ false cuts_holds (fun _ h => by cases h) (by kernel_rfl) (fun _ h => by cases h) msgCuts_row_tie rfl ⟨rfl, rfl⟩ (by kernel_rfl) rfl
    (fun f fn hf hfn => by
      obtain rfl : f = 5 := Option.some.inj ((show Tryd.prog.funcNamed "taxirank/taxiranklaw2.MsgCuts" = some 5 by kernel_rfl).symm.trans hf) |>.symm
      obtain rfl : fn = Tryd.f5 := (Option.some.inj (Tryd.func5.symm.trans hfn)).symm
      exact ⟨by kernel_rfl, fun j t ht => by
        rw [Tryd.params5] at ht
        have hm : t ∈ [4, 28, 3] := by simpa using Array.mem_of_getElem? ht
        have hall : ([4, 28, 3].all fun u => !Tryd.prog.wantsStandIn u) = true := by kernel_rfl
        exact (show Tryd.prog.wantsStandIn t = false by simpa using List.all_eq_true.1 hall t hm)⟩)
    (by kernel_rfl)
end Go.Proofs.YtfdffiphlpeegaaDoor
