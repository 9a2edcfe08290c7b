/- What begins and ends transactions is told whatever word may be behind, and nothing else may be: ParseTransactions answers true, and leaves what was there as it was. (Over the listed variable, tied to the program's text.) -/
import Derived.Test.YtgopajddloeclaaDoorZ12
import Derived.Test.YtgopajddloeclaaDoorZ25
import Derived.Test.YtgopajddloeclaaDoorLPTransM
import Derived.Deep.DeepCutAuto
import Derived.BigQuiet
import Derived.Deep.QuietTactic
namespace Go.Proofs.YtgopajddloeclaaDoor
open Go.RowKit Go.Lib Go.WideShapes Go.ChangeShapes Go.ChangeAt Go.Joins

def trWS : Nat → ByteArray
  | 0 => { data := #[98, 101, 103, 105, 110] }
  | 1 => { data := #[99, 111, 109, 109, 105, 116] }
  | 2 => { data := #[101, 110, 100] }
  | 3 => { data := #[114, 111, 108, 108, 98, 97, 99, 107] }
  | _ => { data := #[97, 98, 111, 114, 116] }
def trRS : Nat → ByteArray
  | 0 => { data := #[] }
  | 1 => { data := #[32, 119, 111, 114, 107] }
  | _ => { data := #[32, 116, 114, 97, 110, 115, 97, 99, 116, 105, 111, 110] }
theorem trWS_bytes (i : Nat) (h : i < 5) : bytes (trWS i) = trW.getD i [] ∧ (trWS i).size ≤ 8 := by
  rcases (by omega : i = 0 ∨ i = 1 ∨ i = 2 ∨ i = 3 ∨ i = 4) with rfl | rfl | rfl | rfl | rfl <;> exact ⟨rfl, by decide⟩
theorem trRS_bytes (i : Nat) (h : i < 3) : bytes (trRS i) = trR.getD i [] ∧ (trRS i).size ≤ 12 := by
  rcases (by omega : i = 0 ∨ i = 1 ∨ i = 2) with rfl | rfl | rfl <;> exact ⟨rfl, by decide⟩
theorem trWS_cell (w : World) (i : Nat) (h : i < 5) (u : TypeId) : (w.alloc (.cells #[.string { data := #[98, 101, 103, 105, 110] }, .string { data := #[99, 111, 109, 109, 105, 116] }, .string { data := #[101, 110, 100] }, .string { data := #[114, 111, 108, 108, 98, 97, 99, 107] }, .string { data := #[97, 98, 111, 114, 116] }] u)).cell? ⟨w.heap.size, i, none⟩ = some (.string (trWS i)) := by
  rcases (by omega : i = 0 ∨ i = 1 ∨ i = 2 ∨ i = 3 ∨ i = 4) with rfl | rfl | rfl | rfl | rfl <;> exact World.cell?_alloc_new _ _ _ _
theorem trRS_cell (w : World) (i : Nat) (h : i < 3) (u : TypeId) : (w.alloc (.cells #[.string { data := #[] }, .string { data := #[32, 119, 111, 114, 107] }, .string { data := #[32, 116, 114, 97, 110, 115, 97, 99, 116, 105, 111, 110] }] u)).cell? ⟨w.heap.size, i, none⟩ = some (.string (trRS i)) := by
  rcases (by omega : i = 0 ∨ i = 1 ∨ i = 2) with rfl | rfl | rfl <;> exact World.cell?_alloc_new _ _ _ _
theorem trK_cell (w : World) (i : Nat) (h : i < 5) (u : TypeId) : (w.alloc (.cells #[.int .u8 98, .int .u8 99, .int .u8 99, .int .u8 107, .int .u8 107] u)).cell? ⟨w.heap.size, i, none⟩ = some (.int .u8 ((trK.getD i 0).toNat : Nat)) := by
  rcases (by omega : i = 0 ∨ i = 1 ∨ i = 2 ∨ i = 3 ∨ i = 4) with rfl | rfl | rfl | rfl | rfl <;> exact World.cell?_alloc_new _ _ _ _

/-- The three rows of the law. -/
structure Three (w : World) (b : Nat) (w2 : World) : Prop where
  lt : b + 2 < w2.heap.size
  words : ∀ i, i < 5 → w2.cell? ⟨b, i, none⟩ = some (.string (trWS i))
  kinds : ∀ i, i < 5 → w2.cell? ⟨b + 1, i, none⟩ = some (.int .u8 ((trK.getD i 0).toNat : Nat))
  rest : ∀ i, i < 3 → w2.cell? ⟨b + 1 + 1, i, none⟩ = some (.string (trRS i))
  below : Below w.heap.size w w2
theorem Three.step {w w2 w3 : World} {b : Nat} (h : Three w b w2) (hb : Below w2.heap.size w2 w3) : Three w b w3 := by
  have := h.lt
  refine ⟨Nat.lt_of_lt_of_le h.lt hb.size, fun i hi => ?_, fun i hi => ?_, fun i hi => ?_, h.below.step hb h.below.size⟩
  · exact (hb.cell (p := ⟨b, i, none⟩) (show b < w2.heap.size by omega)).trans (h.words i hi)
  · exact (hb.cell (p := ⟨b + 1, i, none⟩) (show b + 1 < w2.heap.size by omega)).trans (h.kinds i hi)
  · exact (hb.cell (p := ⟨b + 1 + 1, i, none⟩) (show b + 1 + 1 < w2.heap.size by omega)).trans (h.rest i hi)
theorem Three.start {w w1 : World} (hB : Below w.heap.size w w1) (u v x : TypeId) : Three w w1.heap.size (((w1.alloc (.cells #[.string { data := #[98, 101, 103, 105, 110] }, .string { data := #[99, 111, 109, 109, 105, 116] }, .string { data := #[101, 110, 100] }, .string { data := #[114, 111, 108, 108, 98, 97, 99, 107] }, .string { data := #[97, 98, 111, 114, 116] }] u)).alloc (.cells #[.int .u8 98, .int .u8 99, .int .u8 99, .int .u8 107, .int .u8 107] v)).alloc (.cells #[.string { data := #[] }, .string { data := #[32, 119, 111, 114, 107] }, .string { data := #[32, 116, 114, 97, 110, 115, 97, 99, 116, 105, 111, 110] }] x)) := by
  refine ⟨by simp, fun i hi => ?_, fun i hi => ?_, fun i hi => ?_, ((hB.alloc hB.size _).alloc (by simp; have := hB.size; omega) _).alloc (by simp; have := hB.size; omega) _⟩
  · exact Lib.cell?_alloc_some _ (Lib.cell?_alloc_some _ (trWS_cell w1 i hi u))
  · have := Lib.cell?_alloc_some (.cells #[.string { data := #[] }, .string { data := #[32, 119, 111, 114, 107] }, .string { data := #[32, 116, 114, 97, 110, 115, 97, 99, 116, 105, 111, 110] }] x) (trK_cell (w1.alloc (.cells #[.string { data := #[98, 101, 103, 105, 110] }, .string { data := #[99, 111, 109, 109, 105, 116] }, .string { data := #[101, 110, 100] }, .string { data := #[114, 111, 108, 108, 98, 97, 99, 107] }, .string { data := #[97, 98, 111, 114, 116] }] u)) i hi v)
    rwa [World.size_alloc] at this
  · have := trRS_cell ((w1.alloc (.cells #[.string { data := #[98, 101, 103, 105, 110] }, .string { data := #[99, 111, 109, 109, 105, 116] }, .string { data := #[101, 110, 100] }, .string { data := #[114, 111, 108, 108, 98, 97, 99, 107] }, .string { data := #[97, 98, 111, 114, 116] }] u)).alloc (.cells #[.int .u8 98, .int .u8 99, .int .u8 99, .int .u8 107, .int .u8 107] v)) i hi x
    rwa [World.size_alloc, World.size_alloc] at this


set_option maxRecDepth 100000 in
set_option maxHeartbeats 8000000 in
theorem trans_short (first behind : Int) (more : ByteArray) (m : Int) (w : World) (hmo : (more.size : Int) ≤ 200) (h1 : -9223372036854775808 ≤ first) (h2 : first ≤ 9223372036854775807) (h3 : -9223372036854775808 ≤ behind) (h4 : behind ≤ 9223372036854775807) (hm : w.cell? ⟨2, 0, none⟩ = some (.int .i64 m)) (hbar : BarredAt w) :
    Calls Tryd.prog 6 #[.int .i64 first, .int .i64 behind, .string more] w fun e w' => e = .returned (.bool true) ∧ Below w.heap.size w w' := by
  have HW0 := Lib.hid (World.block_lt_of_cell? w ⟨2, 0, none⟩ hm)
  have HSH := Lib.hid (shown9_true m w hm hbar)
  have HP := Lib.hid (fun (S : ByteArray) (W : World) h1 (h : Below w.heap.size w W) => parse_any S m W h1 ((h.cell (p := ⟨2, 0, none⟩) (World.block_lt_of_cell? w ⟨2, 0, none⟩ hm)).trans hm) (hbar.step h))
  have HSC := Lib.hid (fun (S : ByteArray) (W : World) h1 (h : Below w.heap.size w W) => scan_rows S m W h1 ((h.cell (p := ⟨2, 0, none⟩) (World.block_lt_of_cell? w ⟨2, 0, none⟩ hm)).trans hm))
  clear hm hbar
  go_enter Tryd.func6, Tryd.ntmps6
  go_wp2_with fail
  refine HSH.out.mono ?_; rintro e w1 ⟨rfl, hb1⟩
  have HB1 := Lib.hid hb1
  clear hb1 HSH
  go_upto_if 37 with (fail)
  have HT := Lib.hid (Three.start HB1.out 9 5 9)
  generalize ((w1.alloc (Obj.cells #[.string { data := #[98, 101, 103, 105, 110] }, .string { data := #[99, 111, 109, 109, 105, 116] }, .string { data := #[101, 110, 100] }, .string { data := #[114, 111, 108, 108, 98, 97, 99, 107] }, .string { data := #[97, 98, 111, 114, 116] }] 9)).alloc (Obj.cells #[.int .u8 98, .int .u8 99, .int .u8 99, .int .u8 107, .int .u8 107] 5)).alloc (Obj.cells #[.string { data := #[] }, .string { data := #[32, 119, 111, 114, 107] }, .string { data := #[32, 116, 114, 97, 110, 115, 97, 99, 116, 105, 111, 110] }] 9) = w2 at HT ⊢
  go_cut [11] (fun s wx => ∃ I : Int, s = .int .i64 I ∧ 0 ≤ I ∧ I ≤ 9223372036854775807 ∧ w2 = wx)
  case first => as_aux_lemma =>
    go_wp2_with fail
    all_goals go_meet
    all_goals exact ⟨_, rfl, by omega, by omega, rfl⟩
  case rest =>
  obtain ⟨I, rfl, hI0, hI9, rfl⟩ := hcut
  go_upto_if 43 with (fail)
  go_cut [12] (fun s wx => ∃ K : Int, s = .int .i64 K ∧ 0 ≤ K ∧ K ≤ 9223372036854775807 ∧ w2 = wx)
  case first => as_aux_lemma =>
    go_wp2_with fail
    all_goals go_meet
    all_goals exact ⟨_, rfl, by omega, by omega, rfl⟩
  case rest => as_aux_lemma =>
  obtain ⟨K, rfl, hK0, hK9, rfl⟩ := hcut
  have hi5 : (I % 5).toNat < 5 := by omega
  have hk3 : (K % 3).toNat < 3 := by omega
  have HI5 := Lib.hid hi5; have HK3 := Lib.hid hk3
  have HOB := Lib.hid (trWS_bytes _ hi5); have HRB := Lib.hid (trRS_bytes _ hk3)
  have ho8 := HOB.out.2; have hr12 := HRB.out.2
  have HXW := Lib.hid (fun W (h : Three w w1.heap.size W) => h.words _ hi5)
  have HXK := Lib.hid (fun W (h : Three w w1.heap.size W) => h.kinds _ hi5)
  have HXR := Lib.hid (fun W (h : Three w w1.heap.size W) => h.rest _ hk3)
  have HAL := Lib.hid (tr_alone _ _ hi5 hk3)
  have HMO := Lib.hid (fun (r : Bs) (t : Tok) (T : List Tok) => tr_more _ _ hi5 hk3 (r := r) (t := t) (T := T))
  have HR0 := Lib.hid (show (K % 3).toNat = 0 → trRS (K % 3).toNat = { data := #[] } from fun h => by rw [h]; rfl)
  generalize trWS (I % 5).toNat = O at HOB ho8 HXW
  generalize trRS (K % 3).toNat = R at HRB hr12 HXR HR0
  clear hi5 hk3
  generalize trK.getD (I % 5).toNat 0 = kd at HXK HAL
  generalize trW.getD (I % 5).toNat [] = aW at HOB HAL HMO
  generalize trR.getD (K % 3).toNat [] = aR at HRB HAL HMO
  have q0 : 0 ≤ I % 5 := by omega
  have q1 : I % 5 < 5 := by omega
  have q2 : 0 ≤ K % 3 := by omega
  have q3 : K % 3 < 3 := by omega
  have q4 : I.tmod 5 = I % 5 := Int.tmod_eq_emod_of_nonneg hI0
  have q5 : K.tmod 3 = K % 3 := Int.tmod_eq_emod_of_nonneg hK0
  have d1 := HXW.out _ HT.out
  have d2 := HXR.out _ HT.out
  go_upto_region 13 with (fail)
  go_quiet (fail)
  have HT3 := Lib.hid (HT.out.step (below_drewN (Below.refl _ w2) nq))
  generalize w2.drewN nq = w3 at HT3 ⊢
  clear d1 d2 HT q4 q5
  have hsz : (O ++ R).size ≤ 2000 := by rw [ByteArray.size_append]; omega
  have hp := HP.out (O ++ R) w3 hsz HT3.out.below
  rw [show bytes (O ++ R) = _ from p_cat O R, HOB.out.1, HRB.out.1, HAL.out] at hp
  have HPP := Lib.hid hp
  unfold Cmd.val at HPP
  clear hp hsz HAL
  go_wp2_with fail
  refine HPP.out.mono ?_; rintro e w4 ⟨rfl, hb4⟩
  have HT4 := Lib.hid (HT3.out.step hb4)
  clear hb4 HT3 HPP
  go_wp2_with fail
  have HTA := Lib.hid (HT4.out.step ((Below.refl _ w4).alloc (Nat.le_refl _) (.cells #[.int .u8 (kd.toNat : Nat), .string { data := #[] }, .string { data := #[] }] 27)))
  refine (HSC.out more _ (by omega) HTA.out.below).mono ?_; rintro e w5 ⟨hb5, hcs⟩
  have hzz : w4.heap.size < (w4.alloc (.cells #[.int .u8 (kd.toNat : Nat), .string { data := #[] }, .string { data := #[] }] 27)).heap.size := by simp
  have HT5 := Lib.hid (HTA.out.step hb5)
  have e0 : w5.cell? ⟨w4.heap.size, 0, none⟩ = some (.int .u8 (kd.toNat : Nat)) := (hb5.cell (p := ⟨w4.heap.size, 0, none⟩) hzz).trans (World.cell?_alloc_new _ _ _ _)
  have e1 : w5.cell? ⟨w4.heap.size, 1, none⟩ = some (.string { data := #[] }) := (hb5.cell (p := ⟨w4.heap.size, 1, none⟩) hzz).trans (World.cell?_alloc_new _ _ _ _)
  have e2 : w5.cell? ⟨w4.heap.size, 2, none⟩ = some (.string { data := #[] }) := (hb5.cell (p := ⟨w4.heap.size, 2, none⟩) hzz).trans (World.cell?_alloc_new _ _ _ _)
  have hw5 : w4.heap.size < w5.heap.size := Nat.lt_of_lt_of_le hzz hb5.size
  have d1 := HXK.out _ HT5.out
  clear hb5 hzz HTA HT4 HSC
  rcases hcs with ⟨hN, p, c, rfl⟩ | ⟨L, n, p, c, hL, hn, hn2, rfl, hA⟩
  · clear hN
    go_upto_region 16 with (fail)
    have q4 : I.tmod 5 = I % 5 := Int.tmod_eq_emod_of_nonneg hI0
    go_quiet (fail)
    have HT6 := Lib.hid (HT5.out.step (below_drewN (Below.refl _ w5) nq))
    generalize w5.drewN nq = w6 at HT6 ⊢
    clear q4 e0 e1 e2 d1
    go_wp2_with fail
    go_ret
    exact ⟨rfl, HT6.out.below⟩
  · have HL := Lib.hid hL; have HN := Lib.hid hn
    clear hL hn
    go_upto_region 16 with (fail)
    have q4 : I.tmod 5 = I % 5 := Int.tmod_eq_emod_of_nonneg hI0
    go_quiet (fail)
    have HT6 := Lib.hid (HT5.out.step (below_drewN (Below.refl _ w5) nq))
    have HA6 := Lib.hid (hA.step (below_drewN (Below.refl _ w5) nq))
    generalize w5.drewN nq = w6 at HT6 HA6 ⊢
    clear q4 e0 e1 e2 d1 hA HT5
    cases L with
    | nil =>
      obtain rfl : 0 = n := HN.out
      go_wp2_with fail
      go_ret
      exact ⟨rfl, HT6.out.below⟩
    | cons t T => as_aux_lemma =>
      have hn1 : (1 : Int) ≤ n := by rw [← HN.out, List.length_cons]; omega
      have hn0 : ((n : Int) == 0) = false := by simp; omega
      have hSb : bytes (((O ++ R) ++ ({ data := #[32] } : ByteArray)) ++ more) = (aW ++ aR) ++ 32 :: bytes more := by rw [p_cat, p_cat, p_cat, HOB.out.1, HRB.out.1]; simp [bytes]
      have hsz : (((O ++ R) ++ ({ data := #[32] } : ByteArray)) ++ more).size ≤ 2000 := by rw [ByteArray.size_append, ByteArray.size_append, ByteArray.size_append]; show O.size + R.size + 1 + more.size ≤ _; omega
      obtain ⟨d, hd, hcase⟩ := HMO.out _ _ _ HL.out (by rw [← hSb, bytes_len]; exact hsz)
      have hp := HP.out _ w6 hsz HT6.out.below
      rw [hSb, hd] at hp
      have HPP := Lib.hid hp
      have HCASE := Lib.hid hcase
      clear hp hsz hSb hd hcase HMO HP
      unfold Cmd.val at HPP
      go_wp2_with fail
      refine HPP.out.mono ?_; rintro e w7 ⟨rfl, hb7⟩
      have HT7 := Lib.hid (HT6.out.step hb7)
      have HA7 := Lib.hid (HA6.out.step hb7)
      clear hb7 HT6 HA6 HPP
      go_upto_region 23 with (fail)
      have hB := (Below.refl _ w7).alloc (Nat.le_refl _) (Obj.cells #[.int .u8 (d.kind.toNat : Nat), .string ⟨d.name.toArray⟩, .string ⟨d.value.toArray⟩] 27)
      have HT8 := Lib.hid (HT7.out.step hB)
      have HA8 := Lib.hid (HA7.out.step hB)
      have f0 := World.cell?_alloc_new w7 #[.int .u8 (d.kind.toNat : Nat), .string ⟨d.name.toArray⟩, .string ⟨d.value.toArray⟩] 27 0
      have f1 := World.cell?_alloc_new w7 #[.int .u8 (d.kind.toNat : Nat), .string ⟨d.name.toArray⟩, .string ⟨d.value.toArray⟩] 27 1
      generalize w7.alloc (Obj.cells #[.int .u8 (d.kind.toNat : Nat), .string ⟨d.name.toArray⟩, .string ⟨d.value.toArray⟩] 27) = w8 at HT8 HA8 f0 f1 ⊢
      obtain ⟨g, rfl, hg, a0, a1, _, _⟩ := HA8.out 0 t rfl
      rw [Nat.zero_mul] at a0 a1
      rw [Nat.zero_add] at a1
      have HF0 := Lib.hid f0; have HF1 := Lib.hid f1
      clear hB HT7 HA7 f0 f1 HA8
      go_cut [20] (fun s wx => ∃ b : Bool, s = .bool b ∧ (kt t = sgn → b = true) ∧ w8 = wx)
      case first => as_aux_lemma =>
        by_cases hk : kt t = sgn
        · rw [show t.kind = 111 from congrArg Prod.fst hk] at a0
          rw [show t.text = [59] from congrArg Prod.snd hk] at a1
          go_wp2_with fail
          go_meet
          exact ⟨_, rfl, fun _ => rfl, rfl⟩
        · go_wp2_with fail
          all_goals go_meet
          all_goals exact ⟨_, rfl, fun h => absurd h hk, rfl⟩
      case rest => as_aux_lemma =>
      obtain ⟨b20, rfl, h20, rfl⟩ := hcut
      have H20 := Lib.hid h20
      clear h20
      have e5 : ((2 : Int) < I % 5 → (2 < (I % 5).toNat)) := fun h => by omega
      have e5' : (¬ (2 : Int) < I % 5 → ¬ (2 < (I % 5).toNat)) := fun h => by omega
      have E5 := Lib.hid (And.intro e5 e5')
      clear e5 e5'
      go_upto_region 24 with (fail)
      go_cut [21] (fun s wx => ∃ b : Bool, s = .bool b ∧ (2 < (I % 5).toNat ∧ kt t = (119, w_to) → b = true) ∧ w8 = wx)
      case first => as_aux_lemma =>
        by_cases hk : kt t = (119, w_to)
        · rw [show t.kind = 119 from congrArg Prod.fst hk] at a0
          rw [show t.text = w_to from congrArg Prod.snd hk] at a1
          by_cases h2 : (2 : Int) < I % 5
          · go_wp2_with fail
            go_meet
            exact ⟨_, rfl, fun _ => rfl, rfl⟩
          · have h2' : I % 5 ≤ 2 := by omega
            have H2 := Lib.hid (E5.out.2 h2)
            clear h2
            go_wp2_with fail
            go_meet
            exact ⟨_, rfl, fun h => absurd h.1 H2.out, rfl⟩
        · go_wp2_with fail
          all_goals go_meet
          all_goals exact ⟨_, rfl, fun h => absurd h.2 hk, rfl⟩
      case rest => as_aux_lemma =>
      obtain ⟨b21, rfl, h21, rfl⟩ := hcut
      have H21 := Lib.hid h21
      clear h21
      have d2 := HXR.out _ HT8.out
      have q5 : K.tmod 3 = K % 3 := Int.tmod_eq_emod_of_nonneg hK0
      go_upto_region 25 with (fail)
      go_cut [22] (fun s wx => ∃ b : Bool, s = .bool b ∧ ((K % 3).toNat = 0 ∧ (kt t = (119, w_work) ∨ kt t = (119, w_transaction)) → b = true) ∧ w8 = wx)
      case first => as_aux_lemma =>
        by_cases hk : (K % 3).toNat = 0 ∧ (kt t = (119, w_work) ∨ kt t = (119, w_transaction))
        · obtain ⟨hk1, hk2⟩ := hk
          have hR := HR0.out hk1
          clear hk1
          subst hR
          rcases hk2 with hk | hk
          · rw [show t.kind = 119 from congrArg Prod.fst hk] at a0
            rw [show t.text = w_work from congrArg Prod.snd hk] at a1
            go_wp2_with fail
            go_meet
            exact ⟨_, rfl, fun _ => rfl, rfl⟩
          · rw [show t.kind = 119 from congrArg Prod.fst hk] at a0
            rw [show t.text = w_transaction from congrArg Prod.snd hk] at a1
            go_wp2_with fail
            go_meet
            exact ⟨_, rfl, fun _ => rfl, rfl⟩
        · have HKK := Lib.hid hk
          clear hk
          go_wp2_with fail
          all_goals go_meet
          all_goals exact ⟨_, rfl, fun h => absurd h HKK.out, rfl⟩
      case rest => as_aux_lemma =>
      obtain ⟨b22, rfl, h22, rfl⟩ := hcut
      have H22 := Lib.hid h22
      clear h22 a0 a1 d2 q5
      have q4 : I.tmod 5 = I % 5 := Int.tmod_eq_emod_of_nonneg hI0
      have d1 := HXW.out _ HT8.out
      go_upto_region 26 with (fail)
      cases b20 with
      | true => as_aux_lemma =>
        go_quiet (fail)
        have HT9 := Lib.hid (HT8.out.step (below_drewN (Below.refl _ w8) nq))
        generalize w8.drewN nq = w9 at HT9 ⊢
        go_wp2_with fail
        go_ret
        exact ⟨rfl, HT9.out.below⟩
      | false =>
      cases b21 with
      | true => as_aux_lemma =>
        go_quiet (fail)
        have HT9 := Lib.hid (HT8.out.step (below_drewN (Below.refl _ w8) nq))
        generalize w8.drewN nq = w9 at HT9 ⊢
        go_wp2_with fail
        go_ret
        exact ⟨rfl, HT9.out.below⟩
      | false =>
      cases b22 with
      | true => as_aux_lemma =>
        go_quiet (fail)
        have HT9 := Lib.hid (HT8.out.step (below_drewN (Below.refl _ w8) nq))
        generalize w8.drewN nq = w9 at HT9 ⊢
        go_wp2_with fail
        go_ret
        exact ⟨rfl, HT9.out.below⟩
      | false =>
      have hcc : (d.kind = 117 ∧ d.name = aW) ∨ d.kind = 109 := by
        rcases HCASE.out with h | h | h | h | h
        · have := H20.out h; cases this
        · have := H21.out h; cases this
        · have := H22.out h; cases this
        · exact .inl h
        · exact .inr h
      have f0 := HF0.out
      have f1 := HF1.out
      clear H20 H21 H22 HCASE HF0 HF1
      rcases hcc with ⟨hk, hn⟩ | hk
      · as_aux_lemma =>
        rw [hk] at f0
        rw [hn, show (⟨aW.toArray⟩ : ByteArray) = O by rw [← HOB.out.1]] at f1
        replace f0 : w8.cell? ⟨w7.heap.size, 0, none⟩ = some (.int .u8 117) := f0
        replace f1 : w8.cell? ⟨w7.heap.size, 1, none⟩ = some (.string O) := f1
        clear hk hn
        go_quiet (fail)
        have HT9 := Lib.hid (HT8.out.step (below_drewN (Below.refl _ w8) nq))
        generalize w8.drewN nq = w9 at HT9 ⊢
        go_wp2_with fail
        go_ret
        exact ⟨rfl, HT9.out.below⟩
      · rw [hk] at f0
        replace f0 : w8.cell? ⟨w7.heap.size, 0, none⟩ = some (.int .u8 109) := f0
        clear hk f1
        go_quiet (fail)
        have HT9 := Lib.hid (HT8.out.step (below_drewN (Below.refl _ w8) nq))
        generalize w8.drewN nq = w9 at HT9 ⊢
        go_wp2_with fail
        go_ret
        exact ⟨rfl, HT9.out.below⟩

set_option maxRecDepth 100000 in
set_option maxHeartbeats 1000000 in
theorem trans_long (first behind : Int) (more : ByteArray) (m : Int) (w : World) (_hmz : more.size ≤ 140737488351232) (hmo : (200 : Int) < more.size) (hm : w.cell? ⟨2, 0, none⟩ = some (.int .i64 m)) (hbar : BarredAt w) :
    Calls Tryd.prog 6 #[.int .i64 first, .int .i64 behind, .string more] w fun e w' => e = .returned (.bool true) ∧ Below w.heap.size w w' := by
  have HSH := Lib.hid (shown9_true m w hm hbar)
  clear hm hbar
  go_enter Tryd.func6, Tryd.ntmps6
  go_wp2_with fail
  refine HSH.out.mono ?_; rintro e w1 ⟨rfl, hb1⟩
  go_wp2_with fail
  go_ret
  exact ⟨rfl, hb1⟩

theorem trans_walk (first behind : Int) (more : ByteArray) (m : Int) (w : World) (hmz : more.size ≤ 140737488351232) (h1 : -9223372036854775808 ≤ first ∧ first ≤ 9223372036854775807) (h2 : -9223372036854775808 ≤ behind ∧ behind ≤ 9223372036854775807) (hm : w.cell? ⟨2, 0, none⟩ = some (.int .i64 m)) (hbar : BarredAt w) :
    Calls Tryd.prog 6 #[.int .i64 first, .int .i64 behind, .string more] w fun e w' => e = .returned (.bool true) ∧ Below w.heap.size w w' := by
  by_cases h : (200 : Int) < more.size
  · exact trans_long first behind more m w hmz h hm hbar
  · exact trans_short first behind more m w (by omega) h1.1 h1.2 h2.1 h2.2 hm hbar

set_option maxRecDepth 100000 in
theorem trans_lifted (os : Os) (started : os.Started) (H : Type) (enc : TypeId × Value → H) :
    ReturnsInHanded {} Tryd.checked os 6 .any (fun w args => (Rows.parseTransactionsSpec.pre enc Tryd.prog Tryd.f6 Rows.parseTransactionsRow.domain false w args ∧ laidMetH Tryd.prog [("taxirank/parse.barred", Rows.laid_taxirank_parse_barred)] w) ∧ sizedMet enc Tryd.prog Tryd.f6 (OpenSpec.ofChange Rows.parseTransactionsSpec) false w args) (Rows.parseTransactionsSpec.post enc Tryd.prog Tryd.f6 false true false false) := by
  refine handed_laid (C := Tryd.checked) (X := fun w _ => laidMetH Tryd.prog [("taxirank/parse.barred", Rows.laid_taxirank_parse_barred)] w) (fun _ _ _ hh h => h.of_heap hh) own started (by kernel_rfl) Tryd.func6
    (ChangeSpec.witness_shaped (enc := enc) (C := Tryd.checked) (os := os) (X := fun w _ => laidMetH Tryd.prog [("taxirank/parse.barred", Rows.laid_taxirank_parse_barred)] w) false (World.laidAll Tryd.prog os [("taxirank/parse.barred", Rows.laid_taxirank_parse_barred)]) #[.int .i64 0, .int .i64 0, .string { data := #[] }] 8 (World.laidAll_os _ _ _) (World.shaped_of_ZipB (by kernel_rfl) (by kernel_rfl)) (by kernel_rfl) (by kernel_rfl) (by kernel_rfl)
      (by rw [MakeChecks.laidMetH_plain _ _ _ (by kernel_rfl)]; exact laidMet_laidAll _ (by kernel_rfl) (by kernel_rfl))) ?_
  intro W base args ds gs before hval0 hW hsz0 hsh hL
  obtain ⟨m, hm⟩ : ∃ m, W.cell? ⟨2, 0, none⟩ = some (.int .i64 m) := Tryd.laysM143.s1_3 W hsh
  have hbar := barred_of_one hL
  have hsz : (DataW.weightsEach Tryd.prog (Tryd.f6.params.toList ++ Rows.parseTransactionsSpec.plain.varTypes Tryd.prog) (ds ++ gs)).all (· ≤ reachBytes) = true := hsz0
  clear hsz0
  have hval : ∀ (j : Nat) t v, Tryd.f6.params[j]? = some t → args[j]? = some v → Value.okWide Tryd.prog W .any base t v := hval0
  have hW' := hW
  obtain ⟨p, q, hA0, hV, rfl, _, _⟩ := hW
  have hA : DataW.TrodAll enc Tryd.prog W 0 (fun _ => true) true Tryd.f6.params.toList args.toList ds p := hA0
  rw [Tryd.params6] at hA hval hsz
  obtain ⟨v0, v1, v2, d0, d1, d2, p0, p1, p2, rfl, rfl, rfl, h0, h1, h2⟩ := trodAll_three hA
  obtain ⟨rfl, rfl⟩ := trodVars_none hV
  obtain ⟨first, rfl, rfl, rfl, wf_first⟩ := open_int Tryd.underlying3 (hval 0 3 v0 rfl rfl) h0
  have h_first := int_range wf_first
  obtain ⟨behind, rfl, rfl, rfl, wf_behind⟩ := open_int Tryd.underlying3 (hval 1 3 v1 rfl rfl) h1
  have h_behind := int_range wf_behind
  obtain ⟨more, rfl, rfl, rfl, hl_more⟩ := Go.ChangeMaps.open_string Tryd.underlying9 (hval 2 9 v2 rfl rfl) h2
  have hz_more : more.size ≤ 140737488351232 := by have := sized_string hsz (j := 2) (t := 9) rfl rfl; rw [size_list] at this; exact this
  refine (trans_walk first behind more m W hz_more h_first h_behind hm hbar).mono fun e W' ⟨he, hb⟩ => ?_
  subst he
  exact ⟨_, rfl, law_shut laidOut (by kernel_rfl) (by kernel_rfl) Tryd.underlying4 rfl hW' rfl hb⟩

theorem trans_holds : Rows.ParseTransactionsSaid :=
  OpenClaim.holds_of_wide 6 Tryd.f6 rfl rfl rfl rfl rfl rfl rfl ⟨rfl, rfl, rfl, rfl, rfl⟩ rfl rfl rfl rfl rfl (by kernel_rfl) Tryd.func6 (by kernel_rfl)
    (of_decide_eq_true (by kernel_rfl)) (by unfold Func.isWrapper; rw [if_neg (of_decide_eq_false (by kernel_rfl))]; exact ⟨rfl, rfl⟩)
    (fun os started H enc _ => trans_lifted os started H enc)

theorem trans_card : Rows.ParseTransactionsCardSaid :=
  Claim7.holds_tied_plain_at .later [] [.data] true _ false trans_holds (fun _ h => by cases h) (by kernel_rfl) (fun _ h => by cases h) parseTransactions_row_tie rfl ⟨rfl, rfl⟩ (by kernel_rfl) rfl
    (fun f fn hf hfn => by
      obtain rfl : f = 6 := Option.some.inj ((show Tryd.prog.funcNamed "taxirank/taxiranklaw9.ParseTransactions" = some 6 by kernel_rfl).symm.trans hf) |>.symm
      obtain rfl : fn = Tryd.f6 := (Option.some.inj (Tryd.func6.symm.trans hfn)).symm
      exact ⟨by kernel_rfl, fun j t ht => by
        rw [Tryd.params6] at ht
        have hm : t ∈ [3, 3, 9] := by simpa using Array.mem_of_getElem? ht
        have hall : ([3, 3, 9].all fun u => !Tryd.prog.wantsStandIn u) = true := by kernel_rfl
        exact (show Tryd.prog.wantsStandIn t = false by simpa using List.all_eq_true.1 hall t hm)⟩)
    (by kernel_rfl)
end Go.Proofs.YtgopajddloeclaaDoor
