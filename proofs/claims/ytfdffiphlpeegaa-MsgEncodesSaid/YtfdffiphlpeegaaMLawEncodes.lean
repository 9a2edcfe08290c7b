/- Any direction, any message: MsgEncodes answers true, and leaves what was there as it was. -/
import Derived.Test.YtfdffiphlpeegaaETextOf
import Derived.Test.YtfdffiphlpeegaaMApart
import Derived.ChangeAlike
import Derived.OpenShut
import Derived.SizedLaws
import Derived.HandedShaped
namespace Go.Proofs.Ytfdffiphlpeegaa
open Go.RowKit Go.Lib Go.WideShapes Go.ChangeShapes Go.ChangeAt Go.Joins

theorem textV_form (c : UInt8) (r : Option Bs) : ∃ q e, textV c r = .tuple #[.string q, .int .i64 e] := by
  unfold textV
  by_cases h : encE r = 0
  · rw [if_pos h]; exact ⟨_, _, rfl⟩
  · rw [if_neg h]; exact ⟨_, _, rfl⟩
theorem room_drop {T : List Bs} {N : List Int} (h : room ⟨T, N, []⟩ ≤ 800000) : room ⟨T, [], []⟩ ≤ 800000 := by
  unfold room at h ⊢
  have h' : ([] : Bs).length + ((T.map fun t => t.length + 19).sum + 4 * N.length) ≤ 800000 := h
  show ([] : Bs).length + ((T.map fun t => t.length + 19).sum + 4 * 0) ≤ 800000
  omega
theorem few_len {T : List Bs} {N : List Int} (h : wsum T + N.length < 3000) : T.length ≤ 10000 := by
  have : ∀ T : List Bs, T.length ≤ wsum T := by
    intro T
    induction T with
    | nil => exact Nat.le_refl _
    | cons t T ih => unfold wsum at ih ⊢; simp only [List.map_cons, List.sum_cons, List.length_cons]; omega
  have := this T
  omega

set_option maxRecDepth 100000 in
set_option maxHeartbeats 16000000 in
theorem encodes_walk (w : World) (back : Bool) (c1 : UInt8) (T1 : List Bs) (N1 : List Int) (tv1 nv1 : Value) (hT1 : TextsIn w tv1 T1) (hN1 : NumsIn w nv1 N1) (hz1 : ∀ t ∈ T1, t.length ≤ 140737488351232) :
    Calls Try.prog 3 #[.bool back, .agg #[.int .u8 (c1.toNat : Nat), tv1, nv1]] w fun e w' => e = .returned (.bool true) ∧ Below w.heap.size w w' := by
  have H1 := Lib.hid hT1; have H2 := Lib.hid hN1
  have Z1 := Lib.hid hz1
  obtain ⟨a1, n1, s1, rfl, _⟩ := hT1
  obtain ⟨b1, m1, r1, rfl, _⟩ := hN1
  obtain ⟨W0, hW0⟩ : ∃ x, x = w.alloc (.cells #[.int .u8 (c1.toNat : Nat), .slice a1 n1 s1, .slice b1 m1 r1] 25) := ⟨_, rfl⟩
  have hsz : W0.heap.size = w.heap.size + 1 := by rw [hW0]; simp
  have HB := Lib.hid (show Below w.heap.size w W0 by rw [hW0]; exact (Below.refl _ _).alloc (Nat.le_refl _) _)
  have HC := Lib.hid (show ∀ W, Below W0.heap.size W0 W → (W.cell? ⟨w.heap.size, 0, none⟩ = some (.int .u8 (c1.toNat : Nat)) ∧ W.cell? ⟨w.heap.size, 1, none⟩ = some (.slice a1 n1 s1) ∧ W.cell? ⟨w.heap.size, 2, none⟩ = some (.slice b1 m1 r1)) from by
    intro W hW
    have k : ∀ q i, q < W0.heap.size → W.cell? ⟨q, i, none⟩ = W0.cell? ⟨q, i, none⟩ := fun q i h => hW.cell (p := ⟨q, i, none⟩) h
    refine ⟨(k _ _ (by omega)).trans ?_, (k _ _ (by omega)).trans ?_, (k _ _ (by omega)).trans ?_⟩ <;> (rw [hW0]; simp [go_sem]))
  have HE := Lib.hid hW0
  clear hW0 hsz hz1
  go_enter Try.func3, Try.ntmps3
  go_wp2_with fail
  rw [← HE.out]
  refine (shown_any _).mono ?_; rintro e w1 ⟨rfl, hb⟩
  have B1 := Lib.hid hb
  have P1 := Lib.hid (HB.out.step hb HB.out.size)
  obtain ⟨k0, k1, k2⟩ := HC.out w1 B1.out
  clear hb
  go_wp2_with fail
  refine (few_any w1 c1 T1 N1 _ _ (H1.out.mono P1.out) (H2.out.mono P1.out) Z1.out).mono ?_; rintro e w2 ⟨rfl, hb⟩
  have B2 := Lib.hid (B1.out.step hb B1.out.size)
  have P2 := Lib.hid (P1.out.step hb P1.out.size)
  clear hb k0 k1 k2
  obtain ⟨k0, k1, k2⟩ := HC.out w2 B2.out
  by_cases hf1 : fewB T1 N1 = false
  · rw [hf1]
    go_wp2_with fail
    go_ret
    exact ⟨rfl, P2.out⟩
  have e1 : fewB T1 N1 = true := by simpa using hf1
  have F1 := Lib.hid (room_few (of_decide_eq_true e1))
  have F2 := Lib.hid (few_len (of_decide_eq_true e1))
  rw [e1]
  clear hf1 e1
  go_wp2_with fail
  refine (encode_any w2 back c1 T1 N1 _ _ (H1.out.mono P2.out) (H2.out.mono P2.out) F1.out).mono ?_; rintro e w3 ⟨rfl, hb⟩
  have HRE := Lib.hid (fun W (hW : Below w.heap.size w W) => rencode_any W back c1 T1 N1 _ _ (H1.out.mono hW) (H2.out.mono hW) F1.out F2.out)
  have HTX := Lib.hid (fun W (hW : Below w.heap.size w W) => text_of W back c1 T1 _ (H1.out.mono hW) (room_drop F1.out))
  have HRT := Lib.hid (fun W (hW : Below w.heap.size w W) => rtext_of W back c1 T1 _ (H1.out.mono hW) (room_drop F1.out) F2.out)
  obtain ⟨Q, EQ, hQ⟩ := textV_form c1 (written back c1 T1 [])
  rw [hQ] at HTX HRT
  rw [encV_form] at HRE ⊢
  have B3 := Lib.hid (B2.out.step hb B2.out.size)
  have P3 := Lib.hid (P2.out.step hb P2.out.size)
  clear hb k0 k1 k2 hQ
  generalize encX c1 (written back c1 T1 N1) = X at HRE ⊢
  generalize encB (written back c1 T1 N1) = Y at HRE ⊢
  generalize encE (written back c1 T1 N1) = E at HRE ⊢
  have B4 := Lib.hid (B3.out.alloc B3.out.size (.cells #[.int .u8 X, .string Y] 29))
  have P4 := Lib.hid (P3.out.alloc P3.out.size (.cells #[.int .u8 X, .string Y] 29))
  have z4 : w3.heap.size < (w3.alloc (.cells #[.int .u8 X, .string Y] 29)).heap.size := by simp
  have C4 := Lib.hid (show (w3.alloc (.cells #[.int .u8 X, .string Y] 29)).cell? ⟨w3.heap.size, 0, none⟩ = some (.int .u8 X) ∧ (w3.alloc (.cells #[.int .u8 X, .string Y] 29)).cell? ⟨w3.heap.size, 1, none⟩ = some (.string Y) from ⟨World.cell?_alloc_new _ _ _ _, World.cell?_alloc_new _ _ _ _⟩)
  obtain ⟨k0, k1, k2⟩ := HC.out _ B4.out
  go_upto_region 6 with (fail)
  generalize w3.alloc (.cells #[.int .u8 X, .string Y] 29) = w4 at B4 P4 C4 z4 k0 k1 k2 ⊢
  go_wp2_with fail
  refine (as_any _ _ _ _ _ _ _ _).mono ?_; rintro e w5 ⟨rfl, hb⟩
  have B5 := Lib.hid (B4.out.step hb B4.out.size)
  have P5 := Lib.hid (P4.out.step hb P4.out.size)
  have D5 := Lib.hid (show Below w4.heap.size w4 w5 from hb)
  clear hb k0 k1 k2
  go_wp2_with fail
  refine (HRE.out w5 P5.out).mono ?_; rintro e w6 ⟨rfl, hb⟩
  have B6 := Lib.hid (B5.out.step hb B5.out.size)
  have P6 := Lib.hid (P5.out.step hb P5.out.size)
  have D6 := Lib.hid (D5.out.step hb D5.out.size)
  clear hb
  have B7 := Lib.hid (B6.out.alloc B6.out.size (.cells #[.int .u8 X, .string Y] 33))
  have P7 := Lib.hid (P6.out.alloc P6.out.size (.cells #[.int .u8 X, .string Y] 33))
  have D7 := Lib.hid (D6.out.alloc D6.out.size (.cells #[.int .u8 X, .string Y] 33))
  have z7 : w6.heap.size < (w6.alloc (.cells #[.int .u8 X, .string Y] 33)).heap.size := by simp
  have C7 := Lib.hid (show (w6.alloc (.cells #[.int .u8 X, .string Y] 33)).cell? ⟨w6.heap.size, 0, none⟩ = some (.int .u8 X) ∧ (w6.alloc (.cells #[.int .u8 X, .string Y] 33)).cell? ⟨w6.heap.size, 1, none⟩ = some (.string Y) from ⟨World.cell?_alloc_new _ _ _ _, World.cell?_alloc_new _ _ _ _⟩)
  obtain ⟨k0, k1, k2⟩ := HC.out _ B7.out
  go_upto_region 7 with (fail)
  generalize w6.alloc (.cells #[.int .u8 X, .string Y] 33) = w7 at B7 P7 C7 D7 z7 k0 k1 k2 ⊢
  have S7 := Lib.hid (show ∀ W, Below w7.heap.size w7 W → ((W.cell? ⟨w3.heap.size, 0, none⟩ = some (.int .u8 X) ∧ W.cell? ⟨w3.heap.size, 1, none⟩ = some (.string Y)) ∧ W.cell? ⟨w6.heap.size, 0, none⟩ = some (.int .u8 X) ∧ W.cell? ⟨w6.heap.size, 1, none⟩ = some (.string Y)) ∧ Below w7.heap.size w7 W from by
    intro W hW
    have k : ∀ q i, q < w7.heap.size → W.cell? ⟨q, i, none⟩ = w7.cell? ⟨q, i, none⟩ := fun q i h => hW.cell (p := ⟨q, i, none⟩) h
    have k' : ∀ i, w7.cell? ⟨w3.heap.size, i, none⟩ = w4.cell? ⟨w3.heap.size, i, none⟩ := fun i => D7.out.cell (p := ⟨w3.heap.size, i, none⟩) z4
    have zz : w3.heap.size < w7.heap.size := Nat.lt_of_lt_of_le z4 D7.out.size
    exact ⟨⟨⟨(k _ _ zz).trans ((k' 0).trans C4.out.1), (k _ _ zz).trans ((k' 1).trans C4.out.2)⟩, (k _ _ z7).trans C7.out.1, (k _ _ z7).trans C7.out.2⟩, hW⟩)
  have E7 := Lib.hid (Below.refl w7.heap.size w7)
  clear z7 z4
  go_wp2_with fail
  refine (HTX.out w7 P7.out).mono ?_; rintro e w8 ⟨rfl, hb⟩
  have B8 := Lib.hid (B7.out.step hb B7.out.size)
  have P8 := Lib.hid (P7.out.step hb P7.out.size)
  have E8 := Lib.hid (E7.out.step hb E7.out.size)
  clear hb k0 k1 k2
  obtain ⟨k0, k1, k2⟩ := HC.out _ B8.out
  go_wp2_with fail
  refine (HRT.out w8 P8.out).mono ?_; rintro e w9 ⟨rfl, hb⟩
  have B9 := Lib.hid (B8.out.step hb B8.out.size)
  have P9 := Lib.hid (P8.out.step hb P8.out.size)
  have E9 := Lib.hid (E8.out.step hb E8.out.size)
  clear hb k0 k1 k2
  obtain ⟨k0, k1, k2⟩ := HC.out _ B9.out
  go_wp2_with fail
  have HLA := Lib.hid (lay_any w9 back c1)
  have HLB := Lib.hid (fun W => rlay_any W back c1)
  unfold layV at HLA HLB
  generalize (⟨((lay back c1).getD []).toArray⟩ : ByteArray) = LS at HLA HLB
  generalize (lay back c1).isSome = LB at HLA HLB
  refine HLA.out.mono ?_; rintro e w10 ⟨rfl, rfl⟩
  go_wp2_with fail
  refine (HLB.out _).mono ?_; rintro e w11 ⟨rfl, hb⟩
  have P11 := Lib.hid (P9.out.step hb P9.out.size)
  have E11 := Lib.hid (E9.out.step hb E9.out.size)
  clear hb k0 k1 k2
  go_upto_region 11 with (fail)
  have S0 := S7.out w11 E11.out
  have HSTEP := Lib.hid (show ∀ W W', Below w7.heap.size w7 W → Below W.heap.size W W' → ((W'.cell? ⟨w3.heap.size, 0, none⟩ = some (.int .u8 X) ∧ W'.cell? ⟨w3.heap.size, 1, none⟩ = some (.string Y)) ∧ W'.cell? ⟨w6.heap.size, 0, none⟩ = some (.int .u8 X) ∧ W'.cell? ⟨w6.heap.size, 1, none⟩ = some (.string Y)) ∧ Below w7.heap.size w7 W' from fun W W' h hb => S7.out W' (h.step hb h.size))
  go_region_held3 (fun W => ((W.cell? ⟨w3.heap.size, 0, none⟩ = some (.int .u8 X) ∧ W.cell? ⟨w3.heap.size, 1, none⟩ = some (.string Y)) ∧ W.cell? ⟨w6.heap.size, 0, none⟩ = some (.int .u8 X) ∧ W.cell? ⟨w6.heap.size, 1, none⟩ = some (.string Y)) ∧ Below w7.heap.size w7 W) (first | exact S1 | exact ⟨S0.1, S0.2.drew⟩)
    (first | (go_at_call 15; refine (asframe_any _ _ _).mono ?_; rintro e w12 ⟨rfl, hb12⟩; have S1 := HSTEP.out w11.drew w12 S0.2.drew hb12))
  go_wp2_with fail
  go_ret
  exact ⟨rfl, P7.out.step S1.2 P7.out.size⟩

set_option maxRecDepth 100000 in
theorem encodes_lifted (os : Os) (started : os.Started) (H : Type) (enc : TypeId × Value → H) :
    ReturnsInHanded {} Try.checked os 3 .any (Rows.msgEncodesSpec.pre6 enc Try.prog Try.f3 Rows.msgEncodesRow.domain false) (Rows.msgEncodesSpec.post enc Try.prog Try.f3 false true false false) := by
  refine returnsInHanded_of_change_sized (C := Try.checked) own started (by kernel_rfl) Try.func3
    (ChangeSpec.witness6 (enc := enc) (C := Try.checked) false ⟨#[], #[.bool false, .agg #[.int .u8 0, .slice none 0 0, .slice none 0 0]], []⟩ 8 (by kernel_rfl) (by kernel_rfl) (by kernel_rfl) (by kernel_rfl)) ?_
  intro W base args ds gs before hval0 hW _ hsz0 _
  have hsz : (DataW.weightsEach Try.prog (Try.f3.params.toList ++ Rows.msgEncodesSpec.plain.varTypes Try.prog) (ds ++ gs)).all (· ≤ reachBytes) = true := hsz0
  clear hsz0
  have hval : ∀ (j : Nat) t v, Try.f3.params[j]? = some t → args[j]? = some v → Value.okWide Try.prog W .any base t v := hval0
  have hW' := hW
  obtain ⟨p, q, hA0, hV, rfl, _, _⟩ := hW
  have hA : DataW.TrodAll enc Try.prog W 0 (fun _ => true) true Try.f3.params.toList args.toList ds p := hA0
  rw [Try.params3] at hA hval hsz
  obtain ⟨v0, v1, d0, d1, p0, p1, rfl, rfl, rfl, h0, h1⟩ := trodAll_two hA
  obtain ⟨rfl, rfl⟩ := trodVars_none hV
  obtain ⟨back, rfl, rfl, rfl⟩ := open_bool Try.underlying4 (hval 0 4 v0 rfl rfl) h0
  obtain ⟨c1, tv1, nv1, T1, N1, rfl, hT1, hN1, hw1, hr1⟩ := open_msg (hval 1 25 v1 rfl rfl) h1
  have hz1 : ∀ t ∈ T1, t.length ≤ 140737488351232 := fun t ht => of_decide_eq_true (List.all_eq_true.1 hsz _ (DataW.weights_mem_each (j := 1) (t := 25) rfl rfl _ (hw1 t ht)))
  refine (encodes_walk W back c1 T1 N1 tv1 nv1 hT1 hN1 hz1).mono fun e W' ⟨he, hb⟩ => ?_
  subst he
  exact ⟨_, rfl, law_shut laidOut (by kernel_rfl) (by kernel_rfl) Try.underlying4 rfl hW' rfl hb⟩

theorem encodes_holds : Rows.MsgEncodesSaid :=
  OpenClaim.holds_of_wide 3 Try.f3 rfl rfl rfl rfl rfl rfl rfl ⟨rfl, rfl, rfl, rfl, rfl⟩ rfl rfl rfl rfl rfl (by kernel_rfl) Try.func3 (by kernel_rfl)
    (of_decide_eq_true (by kernel_rfl)) (by unfold Func.isWrapper; rw [if_neg (of_decide_eq_false (by kernel_rfl))]; exact ⟨rfl, rfl⟩)
    (fun os started H enc _ => encodes_lifted os started H enc)
end Go.Proofs.Ytfdffiphlpeegaa
