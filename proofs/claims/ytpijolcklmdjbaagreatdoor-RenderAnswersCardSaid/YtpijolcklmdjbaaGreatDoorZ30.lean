/- Contracts and mathematics: GStat, GShown, GCard. -/
import Derived.Test.YtpijolcklmdjbaaGreatDoorZ29
import Derived.Deep.SlicePairs
import Derived.SliceStrings
import Derived.Lib.SmallJoins
import Derived.Test.YtpijolcklmdjbaaGreatDoorTie
import Derived.Test.YtpijolcklmdjbaaGreatDoorCards
import Derived.Lay
import Derived.LaidMore
import Derived.SevenTiedAt
import Derived.Stop.Joined
import Derived.HandedShaped
import Derived.SizedLaws
import Derived.ChangeSlices
import Derived.ChangeAlike
import Derived.OpenShut
namespace Go.Proofs.YtpijolcklmdjbaaGreatDoor
open Go.RowKit Go.Lib Go.WideShapes

theorem g_ib : ∀ l : Bs, ((0 : UInt8) ∈ l → 0 ≤ Lib.indexByte l 0) ∧ ((0 : UInt8) ∉ l → Lib.indexByte l 0 = -1) := by
  intro l
  induction l with
  | nil => exact ⟨(fun h => by cases h), (fun _ => rfl)⟩
  | cons b l ih =>
    have e : Lib.indexByte (b :: l) 0 = if b == 0 then 0 else if Lib.indexByte l 0 == -1 then -1 else Lib.indexByte l 0 + 1 := rfl
    rw [e]
    by_cases hb : b = 0
    · subst hb
      exact ⟨(fun _ => Int.le_refl _), (fun h => absurd (List.mem_cons_self ..) h)⟩
    · have hb' : (b == 0) = false := by simpa using hb
      rw [hb', if_neg (by simp)]
      constructor
      · intro h
        have hl : (0 : UInt8) ∈ l := by
          rcases List.mem_cons.1 h with h | h
          · exact absurd h.symm hb
          · exact h
        have := ih.1 hl
        have hne : (Lib.indexByte l 0 == -1) = false := by simp; omega
        rw [hne, if_neg (by simp)]; omega
      · intro h
        rw [ih.2 (fun hl => h (List.mem_cons_of_mem _ hl))]; rfl

theorem g_drew {w w1 : World} (h : ∃ n, w1 = w.drewN n) : Below w.heap.size w w1 := below_drew h
def errO (r : Option Bs) : Int := if r.isSome then 0 else 1
def strO (r : Option Bs) : ByteArray := ⟨(r.getD []).toArray⟩
def ansO (r : Option Bs) : Value := .tuple #[.string (strO r), .int .i64 (errO r)]

set_option maxRecDepth 100000 in
set_option maxHeartbeats 4000000 in
theorem assign_any (wd name value : ByteArray) (k : Int) (m : Int) (w : World) (hwd : wd.size ≤ 10) (hg : goodB (bytes name) = true) (hv : value.size ≤ 100000) (hm : w.cell? ⟨2, 0, none⟩ = some (.int .i64 m)) (hT : TakenAt w) :
    Calls Tryz.prog 17 #[.string wd, .agg #[.int .u8 k, .string name, .string value]] w fun e w' => e = .returned (ansO (asgO (bytes wd) (bytes name) (bytes value))) ∧ Below w.heap.size w w' := by
  have hgl := good_len hg
  rw [bytes_len] at hgl
  have hfl := full_length (bytes name)
  rw [bytes_len] at hfl
  have hql := quoted_length 39 (bytes value)
  rw [bytes_len] at hql
  obtain ⟨R, hR⟩ : ∃ R, R = asgO (bytes wd) (bytes name) (bytes value) := ⟨_, rfl⟩
  rw [← hR]
  have hok : okV (bytes value) = (decide (value.size ≤ 60) && decide ((0 : UInt8) ∉ bytes value)) := by unfold okV; rw [bytes_len]
  have HI := Lib.hid (fun W => Tryz.strings_IndexByte value 0 W)
  have hi := g_ib (bytes value)
  rw [show Lib.indexByte value.data.toList (Int.toNat 0).toUInt8 = Lib.indexByte (bytes value) 0 from rfl] at HI
  generalize Lib.indexByte (bytes value) 0 = i at HI hi
  obtain ⟨W0, hW0⟩ : ∃ x, x = w.alloc (.cells #[.int .u8 k, .string name, .string value] 23) := ⟨_, rfl⟩
  have HB := Lib.hid (show Below w.heap.size w W0 by rw [hW0]; exact (Below.refl _ _).alloc (Nat.le_refl _) _)
  have HZ := Lib.hid (show w.heap.size < W0.heap.size by rw [hW0, World.size_alloc]; omega)
  have k1 : W0.cell? ⟨w.heap.size, 1, none⟩ = some (.string name) := by rw [hW0]; simp [go_sem]
  have k2 : W0.cell? ⟨w.heap.size, 2, none⟩ = some (.string value) := by rw [hW0]; simp [go_sem]
  have HW0 := Lib.hid (World.block_lt_of_cell? w ⟨2, 0, none⟩ hm)
  have HM := Lib.hid hm
  have HT := Lib.hid hT
  have HE := Lib.hid hW0
  unfold asgO at hR
  rw [hok] at hR
  clear hok hW0 hm hT
  by_cases hl : value.size ≤ 60
  · have hl' : ¬ (60 : Int) < value.size := by omega
    by_cases h0 : (0 : UInt8) ∈ bytes value
    · have HR := Lib.hid (show R = none by rw [hR, decide_eq_false (p := ¬ (0 : UInt8) ∈ bytes value) (fun h => h h0), Bool.and_false]; rfl)
      have h0i := hi.1 h0
      clear hi h0 hR
      go_enter Tryz.func17, Tryz.ntmps17
      go_wp2_with fail
      rw [← HE.out]
      refine (HI.out _).mono ?_; rintro e w1 ⟨rfl, rfl⟩
      go_wp2_with fail
      go_ret2
      exact ⟨by rw [HR.out]; rfl, HB.out⟩
    · have HR := Lib.hid (show R = some (asgT (bytes wd) (bytes name) (bytes value)) by rw [hR, decide_eq_true hl, decide_eq_true (p := ¬ (0 : UInt8) ∈ bytes value) h0]; rfl)
      have h0i : i < 0 := by have := hi.2 h0; omega
      clear hi h0 hR
      have HF := Lib.hid (fun (W : World) (h : (W.cell? ⟨w.heap.size, 1, none⟩ = some (.string name) ∧ W.cell? ⟨w.heap.size, 2, none⟩ = some (.string value)) ∧ (w.heap.size < W.heap.size ∧ Below w.heap.size w W)) => full_any name m W hg ((h.2.2.cell (p := ⟨2, 0, none⟩) HW0.out).trans HM.out) (HT.out.step h.2.2))
      have HL := Lib.hid (fun W hm => literal_any value m W hv hm)
      obtain ⟨F, hF⟩ : ∃ F : ByteArray, F = ⟨(fullB (bytes name)).toArray⟩ := ⟨_, rfl⟩
      obtain ⟨Q, hQ⟩ : ∃ Q : ByteArray, Q = ⟨(quoted 39 (bytes value)).toArray⟩ := ⟨_, rfl⟩
      have hFs : F.size ≤ 200 := by rw [hF, bsize]; omega
      have hQs : Q.size ≤ 200 := by rw [hQ, bsize]; omega
      have HX := Lib.hid (show (wd ++ F ++ { data := #[32, 84, 79, 32] } ++ Q : ByteArray) = ⟨(asgT (bytes wd) (bytes name) (bytes value)).toArray⟩ by
        rw [hF, hQ]
        apply ByteArray.ext
        apply Array.toList_inj.1
        simp [asgT, bytes])
      rw [← hF] at HF
      rw [← hQ] at HL
      clear hF hQ hfl hql
      go_enter Tryz.func17, Tryz.ntmps17
      go_wp2_with fail
      rw [← HE.out]
      refine (HI.out _).mono ?_; rintro e w1 ⟨rfl, hw1⟩
      have hw1' : W0 = w1 := by first | exact hw1 | exact hw1.symm
      subst hw1'
      clear hw1
      go_upto_region 3 with (fail)
      have S0 : (W0.cell? ⟨w.heap.size, 1, none⟩ = some (.string name) ∧ W0.cell? ⟨w.heap.size, 2, none⟩ = some (.string value)) ∧ (w.heap.size < W0.heap.size ∧ Below w.heap.size w W0) := ⟨⟨k1, k2⟩, HZ.out, HB.out⟩
      have HSTEP := Lib.hid (show ∀ W W', ((W.cell? ⟨w.heap.size, 1, none⟩ = some (.string name) ∧ W.cell? ⟨w.heap.size, 2, none⟩ = some (.string value)) ∧ (w.heap.size < W.heap.size ∧ Below w.heap.size w W)) → Below W.heap.size W W' → ((W'.cell? ⟨w.heap.size, 1, none⟩ = some (.string name) ∧ W'.cell? ⟨w.heap.size, 2, none⟩ = some (.string value)) ∧ (w.heap.size < W'.heap.size ∧ Below w.heap.size w W')) from fun W W' h hb => ⟨⟨(hb.cell (p := ⟨w.heap.size, 1, none⟩) h.2.1).trans h.1.1, (hb.cell (p := ⟨w.heap.size, 2, none⟩) h.2.1).trans h.1.2⟩, Nat.lt_of_lt_of_le h.2.1 hb.size, h.2.2.step hb (Nat.le_of_lt h.2.1)⟩)
      have HMW := Lib.hid (fun W (h : Below w.heap.size w W) => (h.cell (p := ⟨2, 0, none⟩) HW0.out).trans HM.out)
      clear k1 k2
      have q1 : ¬ 9223372036854775807 < wd.size + F.size := by omega
      have q2 : ¬ 9223372036854775807 < wd.size + F.size + 4 := by omega
      have q3 : ¬ 9223372036854775807 < wd.size + F.size + 4 + Q.size := by omega
      go_region_held3 (fun w' => (w'.cell? ⟨w.heap.size, 1, none⟩ = some (.string name) ∧ w'.cell? ⟨w.heap.size, 2, none⟩ = some (.string value)) ∧ (w.heap.size < w'.heap.size ∧ Below w.heap.size w w')) (first | exact S2 | exact S1 | exact ⟨S0.1, S0.2.1, S0.2.2.drew⟩)
        (first | (go_at_call 18; refine (HF.out W0.drew ⟨S0.1, S0.2.1, S0.2.2.drew⟩).mono ?_; rintro e w4 ⟨rfl, hb4⟩; have S1 := HSTEP.out W0.drew w4 ⟨S0.1, S0.2.1, S0.2.2.drew⟩ hb4) | (go_at_call 30; refine (HL.out w4 (HMW.out w4 S1.2.2)).mono ?_; rintro e w5 ⟨rfl, hb5⟩; have S2 := HSTEP.out w4 w5 S1 hb5))
      all_goals
        first
          | (go_wp2_with fail; go_ret2; exact ⟨by rw [HR.out, HX.out]; rfl, S2.2.2⟩)
          | (simp [Act.put]; go_wp2_with fail; go_ret2; exact ⟨by rw [HR.out, HX.out]; rfl, S2.2.2⟩)
  · have hl' : (60 : Int) < value.size := by omega
    have HR := Lib.hid (show R = none by rw [hR, decide_eq_false hl, Bool.false_and]; rfl)
    clear hi hR hl
    go_enter Tryz.func17, Tryz.ntmps17
    go_wp2_with fail
    go_ret2
    exact ⟨by rw [HR.out]; rfl, (Below.refl _ _).alloc (Nat.le_refl _) _⟩
set_option maxRecDepth 100000 in
set_option maxHeartbeats 8000000 in
theorem stat_any (k : UInt8) (name value : ByteArray) (m : Int) (w : World) (hn : name.size ≤ 100000) (hv : value.size ≤ 100000) (hm : w.cell? ⟨2, 0, none⟩ = some (.int .i64 m)) (hT : TakenAt w) :
    Calls Tryz.prog 8 #[.agg #[.int .u8 (k.toNat : Nat), .string name, .string value]] w fun e w' => e = .returned (ansO (statT k (bytes name) (bytes value))) ∧ Below w.heap.size w w' := by
  obtain ⟨R, hR⟩ : ∃ R, R = statT k (bytes name) (bytes value) := ⟨_, rfl⟩
  rw [← hR]
  obtain ⟨ki, hki⟩ : ∃ ki : Int, ki = (k.toNat : Nat) := ⟨_, rfl⟩
  rw [← hki]
  have hne : ∀ c : UInt8, ¬ k = c → (ki == (c.toNat : Nat)) = false := by
    intro c hc
    rw [hki]
    cases hb : ((k.toNat : Int) == (c.toNat : Nat)) with
    | false => rfl
    | true => exact absurd (UInt8.toNat_inj.mp (Int.ofNat.inj (eq_of_beq hb))) hc
  obtain ⟨W0, hW0⟩ : ∃ x, x = w.alloc (.cells #[.int .u8 ki, .string name, .string value] 23) := ⟨_, rfl⟩
  have HB := Lib.hid (show Below w.heap.size w W0 by rw [hW0]; exact (Below.refl _ _).alloc (Nat.le_refl _) _)
  have HZ := Lib.hid (show w.heap.size < W0.heap.size by rw [hW0, World.size_alloc]; omega)
  have HK := Lib.hid (show ∀ W, Below W0.heap.size W0 W → W.cell? ⟨w.heap.size, 0, none⟩ = some (.int .u8 ki) ∧ W.cell? ⟨w.heap.size, 1, none⟩ = some (.string name) ∧ W.cell? ⟨w.heap.size, 2, none⟩ = some (.string value) from by
    intro W hW
    have k : ∀ i, W.cell? ⟨w.heap.size, i, none⟩ = W0.cell? ⟨w.heap.size, i, none⟩ := fun i => hW.cell (p := ⟨w.heap.size, i, none⟩) HZ.out
    refine ⟨(k 0).trans ?_, (k 1).trans ?_, (k 2).trans ?_⟩ <;> (rw [hW0]; simp [go_sem]))
  have HW0 := Lib.hid (World.block_lt_of_cell? w ⟨2, 0, none⟩ hm)
  have HM := Lib.hid hm
  have HMW := Lib.hid (fun W (h : Below w.heap.size w W) => (h.cell (p := ⟨2, 0, none⟩) HW0.out).trans HM.out)
  have HT := Lib.hid hT
  have HG := Lib.hid (good_any name m W0 hn (HMW.out _ HB.out))
  have HE := Lib.hid hW0
  have HR := Lib.hid hR
  have HKI := Lib.hid hki
  clear hW0 hm hT hR hki
  by_cases h115 : k = 115
  · subst h115
    obtain rfl : ki = 115 := HKI.out
    clear hne
    obtain ⟨k0, k1, k2⟩ := HK.out W0 (Below.refl _ _)
    cases hg : goodB (bytes name) with
    | false =>
      rw [hg] at HG
      have HR2 := Lib.hid (show R = none by rw [HR.out]; unfold statT; simp [hg])
      clear hg
      go_enter Tryz.func8, Tryz.ntmps8
      go_wp2_with fail
      rw [← HE.out]
      refine HG.out.mono ?_; rintro e w1 ⟨rfl, hb⟩
      have HB1 := Lib.hid (HB.out.step (g_drew hb) HB.out.size)
      clear hb
      go_wp2_with fail
      go_ret2
      exact ⟨by rw [HR2.out]; rfl, HB1.out⟩
    | true =>
      rw [hg] at HG
      have HR2 := Lib.hid (show R = asgO g_set (bytes name) (bytes value) by rw [HR.out]; unfold statT; simp [hg])
      have HA := Lib.hid (fun W hm hT => assign_any { data := #[83, 69, 84, 32] } name value 115 m W (by decide) hg hv hm hT)
      rw [show asgO (bytes { data := #[83, 69, 84, 32] }) (bytes name) (bytes value) = R from HR2.out.symm] at HA
      unfold ansO at HA ⊢
      clear hg
      go_enter Tryz.func8, Tryz.ntmps8
      go_wp2_with fail
      rw [← HE.out]
      refine HG.out.mono ?_; rintro e w1 ⟨rfl, hb⟩
      obtain ⟨k0, k1, k2⟩ := HK.out w1 (g_drew hb)
      have HB1 := Lib.hid (HB.out.step (g_drew hb) HB.out.size)
      clear hb
      go_wp2_with fail
      refine (HA.out w1 (HMW.out _ HB1.out) (HT.out.step HB1.out)).mono ?_; rintro e w2 ⟨rfl, hb⟩
      have HB2 := Lib.hid (HB1.out.step hb HB1.out.size)
      clear hb k0 k1 k2
      go_wp2_with fail
      go_ret2
      exact ⟨rfl, HB2.out⟩
  by_cases h108 : k = 108
  · subst h108
    obtain rfl : ki = 108 := HKI.out
    clear hne
    obtain ⟨k0, k1, k2⟩ := HK.out W0 (Below.refl _ _)
    cases hg : goodB (bytes name) with
    | false =>
      rw [hg] at HG
      have HR2 := Lib.hid (show R = none by rw [HR.out]; unfold statT; simp [hg])
      clear hg
      go_enter Tryz.func8, Tryz.ntmps8
      go_wp2_with fail
      rw [← HE.out]
      refine HG.out.mono ?_; rintro e w1 ⟨rfl, hb⟩
      have HB1 := Lib.hid (HB.out.step (g_drew hb) HB.out.size)
      clear hb
      go_wp2_with fail
      go_ret2
      exact ⟨by rw [HR2.out]; rfl, HB1.out⟩
    | true =>
      rw [hg] at HG
      have HR2 := Lib.hid (show R = asgO g_setl (bytes name) (bytes value) by rw [HR.out]; unfold statT; simp [hg])
      have HA := Lib.hid (fun W hm hT => assign_any { data := #[83, 69, 84, 32, 76, 79, 67, 65, 76, 32] } name value 108 m W (by decide) hg hv hm hT)
      rw [show asgO (bytes { data := #[83, 69, 84, 32, 76, 79, 67, 65, 76, 32] }) (bytes name) (bytes value) = R from HR2.out.symm] at HA
      unfold ansO at HA ⊢
      clear hg
      go_enter Tryz.func8, Tryz.ntmps8
      go_wp2_with fail
      rw [← HE.out]
      refine HG.out.mono ?_; rintro e w1 ⟨rfl, hb⟩
      obtain ⟨k0, k1, k2⟩ := HK.out w1 (g_drew hb)
      have HB1 := Lib.hid (HB.out.step (g_drew hb) HB.out.size)
      clear hb
      go_wp2_with fail
      refine (HA.out w1 (HMW.out _ HB1.out) (HT.out.step HB1.out)).mono ?_; rintro e w2 ⟨rfl, hb⟩
      have HB2 := Lib.hid (HB1.out.step hb HB1.out.size)
      clear hb k0 k1 k2
      go_wp2_with fail
      go_ret2
      exact ⟨rfl, HB2.out⟩
  by_cases h114 : k = 114
  · subst h114
    obtain rfl : ki = 114 := HKI.out
    clear hne
    obtain ⟨k0, k1, k2⟩ := HK.out W0 (Below.refl _ _)
    cases hg : goodB (bytes name) with
    | false =>
      rw [hg] at HG
      have HR2 := Lib.hid (show R = none by rw [HR.out]; unfold statT; simp [hg])
      clear hg
      go_enter Tryz.func8, Tryz.ntmps8
      go_wp2_with fail
      rw [← HE.out]
      refine HG.out.mono ?_; rintro e w1 ⟨rfl, hb⟩
      have HB1 := Lib.hid (HB.out.step (g_drew hb) HB.out.size)
      clear hb
      go_wp2_with fail
      go_ret2
      exact ⟨by rw [HR2.out]; rfl, HB1.out⟩
    | true =>
      rw [hg] at HG
      have HR2 := Lib.hid (show R = some (g_reset ++ fullB (bytes name)) by rw [HR.out]; unfold statT; simp [hg])
      have HF := Lib.hid (fun W hm hT => full_any name m W hg hm hT)
      have hgl := good_len hg
      have hfl := full_length (bytes name)
      obtain ⟨F, hF⟩ : ∃ F : ByteArray, F = ⟨(fullB (bytes name)).toArray⟩ := ⟨_, rfl⟩
      have hFs : F.size ≤ 200 := by rw [hF, bsize]; omega
      have HX := Lib.hid (show ({ data := #[82, 69, 83, 69, 84, 32] } ++ F : ByteArray) = ⟨(g_reset ++ fullB (bytes name)).toArray⟩ by
        rw [hF]
        apply ByteArray.ext
        apply Array.toList_inj.1
        simp)
      rw [← hF] at HF
      clear hg hgl hfl hF
      go_enter Tryz.func8, Tryz.ntmps8
      go_wp2_with fail
      rw [← HE.out]
      refine HG.out.mono ?_; rintro e w1 ⟨rfl, hb⟩
      obtain ⟨k0, k1, k2⟩ := HK.out w1 (g_drew hb)
      have HB1 := Lib.hid (HB.out.step (g_drew hb) HB.out.size)
      clear hb
      go_wp2_with fail
      refine (HF.out w1 (HMW.out _ HB1.out) (HT.out.step HB1.out)).mono ?_; rintro e w2 ⟨rfl, hb⟩
      have HB2 := Lib.hid (HB1.out.step hb HB1.out.size)
      clear hb k0 k1 k2
      go_wp2_with fail
      go_ret2
      exact ⟨by rw [HR2.out, HX.out]; rfl, HB2.out⟩
  by_cases h97 : k = 97
  · subst h97
    obtain rfl : ki = 97 := HKI.out
    clear hne
    obtain ⟨k0, k1, k2⟩ := HK.out W0 (Below.refl _ _)
    have HR2 := Lib.hid (show R = some g_all by rw [HR.out]; rfl)
    go_enter Tryz.func8, Tryz.ntmps8
    go_wp2_with fail
    go_ret2
    exact ⟨by rw [HR2.out]; rfl, (Below.refl _ _).alloc (Nat.le_refl _) _⟩
  by_cases h120 : k = 120
  · subst h120
    obtain rfl : ki = 120 := HKI.out
    clear hne
    obtain ⟨k0, k1, k2⟩ := HK.out W0 (Below.refl _ _)
    have HR2 := Lib.hid (show R = some g_discard by rw [HR.out]; rfl)
    go_enter Tryz.func8, Tryz.ntmps8
    go_wp2_with fail
    go_ret2
    exact ⟨by rw [HR2.out]; rfl, (Below.refl _ _).alloc (Nat.le_refl _) _⟩
  by_cases h98 : k = 98
  · subst h98
    obtain rfl : ki = 98 := HKI.out
    clear hne
    obtain ⟨k0, k1, k2⟩ := HK.out W0 (Below.refl _ _)
    have HR2 := Lib.hid (show R = some g_begin by rw [HR.out]; rfl)
    go_enter Tryz.func8, Tryz.ntmps8
    go_wp2_with fail
    go_ret2
    exact ⟨by rw [HR2.out]; rfl, (Below.refl _ _).alloc (Nat.le_refl _) _⟩
  by_cases h99 : k = 99
  · subst h99
    obtain rfl : ki = 99 := HKI.out
    clear hne
    obtain ⟨k0, k1, k2⟩ := HK.out W0 (Below.refl _ _)
    have HR2 := Lib.hid (show R = some g_commit by rw [HR.out]; rfl)
    go_enter Tryz.func8, Tryz.ntmps8
    go_wp2_with fail
    go_ret2
    exact ⟨by rw [HR2.out]; rfl, (Below.refl _ _).alloc (Nat.le_refl _) _⟩
  by_cases h107 : k = 107
  · subst h107
    obtain rfl : ki = 107 := HKI.out
    clear hne
    obtain ⟨k0, k1, k2⟩ := HK.out W0 (Below.refl _ _)
    have HR2 := Lib.hid (show R = some g_rollback by rw [HR.out]; rfl)
    go_enter Tryz.func8, Tryz.ntmps8
    go_wp2_with fail
    go_ret2
    exact ⟨by rw [HR2.out]; rfl, (Below.refl _ _).alloc (Nat.le_refl _) _⟩
  have HR2 := Lib.hid (show R = none by rw [HR.out]; unfold statT; rw [if_neg h115, if_neg h108, if_neg h114, if_neg h97, if_neg h120, if_neg h98, if_neg h99, if_neg h107])
  have b115 : (ki == 115) = false := hne 115 h115
  have b108 : (ki == 108) = false := hne 108 h108
  have b114 : (ki == 114) = false := hne 114 h114
  have b97 : (ki == 97) = false := hne 97 h97
  have b120 : (ki == 120) = false := hne 120 h120
  have b98 : (ki == 98) = false := hne 98 h98
  have b99 : (ki == 99) = false := hne 99 h99
  have b107 : (ki == 107) = false := hne 107 h107
  clear hne h115 h108 h114 h97 h120 h98 h99 h107
  obtain ⟨k0, k1, k2⟩ := HK.out W0 (Below.refl _ _)
  go_enter Tryz.func8, Tryz.ntmps8
  go_wp2_with fail
  go_ret2
  exact ⟨by rw [HR2.out]; rfl, (Below.refl _ _).alloc (Nat.le_refl _) _⟩

end Go.Proofs.YtpijolcklmdjbaaGreatDoor

namespace Go.Proofs.YtpijolcklmdjbaaGreatDoor
open Go.RowKit Go.Lib Go.WideShapes

set_option maxRecDepth 100000 in
set_option maxHeartbeats 4000000 in
theorem shown13 (m : Int) (w : World) (hm : w.cell? ⟨2, 0, none⟩ = some (.int .i64 m)) (hT : TakenAt w) :
    Calls Tryz.prog 6 #[] w fun e w' => e = .returned (.bool true) ∧ Below w.heap.size w w' := by
  have h := stat_any 115 { data := #[97, 112, 112, 46, 116, 111] } { data := #[105, 116, 39, 115] } m w (by decide) (by decide) hm hT
  rw [show statT 115 (bytes { data := #[97, 112, 112, 46, 116, 111] }) (bytes { data := #[105, 116, 39, 115] }) = some [83, 69, 84, 32, 97, 112, 112, 46, 34, 116, 111, 34, 32, 84, 79, 32, 39, 105, 116, 39, 39, 115, 39] from by rfl] at h
  have HS := Lib.hid (show Calls Tryz.prog 8 #[.agg #[.int .u8 115, .string { data := #[97, 112, 112, 46, 116, 111] }, .string { data := #[105, 116, 39, 115] }]] w fun e w' => e = .returned (.tuple #[.string { data := #[83, 69, 84, 32, 97, 112, 112, 46, 34, 116, 111, 34, 32, 84, 79, 32, 39, 105, 116, 39, 39, 115, 39] }, .int .i64 0]) ∧ Below w.heap.size w w' from h)
  clear h hm hT
  go_enter Tryz.func6, Tryz.ntmps6
  go_wp2_with fail
  refine HS.out.mono ?_; rintro e w1 ⟨rfl, hb⟩
  have HB := Lib.hid hb
  clear hb
  go_wp2_with fail
  go_ret
  exact ⟨rfl, HB.out⟩

set_option maxHeartbeats 2000000 in
theorem g_short_any (k : Int) (n v : ByteArray) (w : World) (hn : n.size ≤ 140737488351232) (hv : v.size ≤ 140737488351232) :
    Calls Tryz.prog 7 #[.agg #[.int .u8 k, .string n, .string v]] w fun e w' => e = .returned (.bool (decide ((n.size : Int) + v.size < 2000))) ∧ Below w.heap.size w w' := by
  have hr : IntKind.i64.wrap ((n.size : Int) + v.size) = (n.size : Int) + v.size := IntWalk.i64_in _ (by omega)
  go_enter Tryz.func7, Tryz.ntmps7
  go_wp2_with fail
  go_ret
  exact ⟨by rfl, (Below.refl _ _).alloc (Nat.le_refl _) _⟩
end Go.Proofs.YtpijolcklmdjbaaGreatDoor

namespace Go.Proofs.YtpijolcklmdjbaaGreatDoor
open Go.RowKit Go.Lib Go.WideShapes Go.ChangeShapes Go.ChangeAt Go.Joins

/-- The listed data, and the world's shape, both at hand. -/
theorem handed_laid {H : Type} {enc : TypeId × Value → H} {C : Checked} {os : Os} {f : FuncId} {fn : Func} {s : ChangeSpec} {conds : List PathCond} {apart fresh handsOn again : Bool} {X : World → Array Value → Prop}
    (hX : ∀ (w w' : World) (args : Array Value), w.heap = w'.heap → X w args → X w' args) (own : ownKnob C.prog.godebug = none) (started : os.Started) (noInit : C.prog.inits.idxOf? f = none) (hfn : C.prog.funcs[f]? = some fn)
    (witness : ∃ (w : World) (tape : Tape) (i : Input), w.os = os ∧ (w.forCall tape i).Shaped C.prog ∧ i.vars = [] ∧ Input.okWide C.prog (w.forCall tape i) .any w.heap.size f i ∧
      ((s.pre enc C.prog fn conds apart (w.forCall tape i).memory i.args ∧ X (w.forCall tape i).memory i.args) ∧ sizedMet enc C.prog fn (OpenSpec.ofChange s) apart (w.forCall tape i).memory i.args) ∧ ({} : Assume).holds C.prog (lone (Frame.enter C.prog f i.args .normal) [] (w.forCall tape i)))
    (contract : ∀ (W : World) (base : Nat) (args : Array Value) (ds gs : List (DataW H)) (before : List MemPlace),
      (∀ (j : Nat) t v, fn.params[j]? = some t → args[j]? = some v → Value.okWide C.prog W .any base t v) → DataW.Whole enc C.prog fn.params.toList s.vars apart W args.toList ds gs before →
      (DataW.weightsEach C.prog (fn.params.toList ++ s.plain.varTypes C.prog) (ds ++ gs)).all (· ≤ reachBytes) = true → W.ShapedOpen C.prog → X W args →
      Calls C.prog f args W fun e W' => ∃ v, e = .returned v ∧ s.post enc C.prog fn apart fresh handsOn again W args v W') :
    ReturnsInHanded {} C os f .any (fun w args => (s.pre enc C.prog fn conds apart w args ∧ X w args) ∧ sizedMet enc C.prog fn (OpenSpec.ofChange s) apart w args) (s.post enc C.prog fn apart fresh handsOn again) := by
  refine returnsInHanded_of_calls own started noInit witness fun w tape i _ hsh _ hok hpre _ => ?_
  obtain ⟨_, _, _, fn', hfn', _, _, _, _, hval⟩ := hok
  obtain rfl : fn' = fn := Option.some.inj (hfn'.symm.trans hfn)
  obtain ⟨⟨⟨ds, gs, before, hw, _⟩, hx⟩, hz⟩ := hpre
  refine (contract (w.forCall tape i) w.heap.size i.args ds gs before hval (DataW.Whole.of_heap (w' := w.forCall tape i) (by rfl) hw) (hz.weights hw) hsh (hX _ _ _ (by rfl) hx)).mono ?_
  rintro e W' ⟨v, rfl, hp⟩
  exact ChangeSpec.post_blind hp


theorem size_listG (s : ByteArray) : s.data.toList.length = s.size := by simp
theorem g_byte {z : Int} (h : (Lit.int .u8 z).wf = true) : ∃ c : UInt8, z = (c.toNat : Nat) := by
  have hmin : IntKind.u8.min = 0 := rfl
  have hmax : IntKind.u8.max = 255 := rfl
  simp only [Lit.wf, Bool.and_eq_true, decide_eq_true_eq] at h
  refine ⟨UInt8.ofNat z.toNat, ?_⟩
  rw [UInt8.toNat_ofNat', Nat.mod_eq_of_lt (by omega)]
  omega

set_option maxRecDepth 100000 in
theorem open_cmd {H : Type} {enc : TypeId × Value → H} {w : World} {r : Reach} {b0 : Nat} {v : Value} {d : DataW H} {p : List MemPlace} (hv : Value.okWide Tryz.prog w r b0 23 v) (h : DataW.Trod enc Tryz.prog w 0 (fun _ => true) true 23 v d p) :
    ∃ (c : UInt8) (x y : ByteArray), v = .agg #[.int .u8 (c.toNat : Nat), .string x, .string y] ∧ x.data.toList.length ∈ d.weights Tryz.prog 23 ∧ y.data.toList.length ∈ d.weights Tryz.prog 23 := by
  obtain ⟨v0, v1, v2, y0, y1, y2, n, rfl, hd, _, h0, h1, h2⟩ := open_agg3 Tryz.underlying23 (by kernel_rfl) (by kernel_rfl) hv h
  obtain ⟨z, e0, _, wz⟩ := DataW.trod_int Tryz.underlying5 h0
  obtain ⟨z1, e1, hy1, _⟩ := DataW.trod_string Tryz.underlying9 h1
  obtain ⟨z2, e2, hy2, _⟩ := DataW.trod_string Tryz.underlying9 h2
  simp at e0 e1 e2
  subst e0 e1 e2
  obtain ⟨c, rfl⟩ := g_byte wz
  refine ⟨c, z1, z2, rfl, ?_, ?_⟩
  · rw [hd, hy1]
    simp [DataW.weights, Tryz.underlying23, DataW.weightsEach]
  · rw [hd, hy2]
    simp [DataW.weights, Tryz.underlying23, DataW.weightsEach]
end Go.Proofs.YtpijolcklmdjbaaGreatDoor
