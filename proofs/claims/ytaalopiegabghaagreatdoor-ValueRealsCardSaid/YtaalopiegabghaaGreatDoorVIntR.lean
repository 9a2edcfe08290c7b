/- Package value: an int type whose bounds stand in their forms is right. (In general the second call of Itoa is passed over where the first bound has another form; the tactics for drawn regions stand there. The laws that can be stated call it with forms alone.) -/
import Derived.Test.YtaalopiegabghaaGreatDoorVInts
import Derived.Deep.RegionHeld3
namespace Go.Proofs.YtaalopiegabghaaGreatDoor
open Go.RowKit Go.Lib Go.WideShapes

set_option maxRecDepth 100000 in
set_option maxHeartbeats 8000000 in
theorem intright_own (l m : ByteArray) (a b : Int) (w : World) (hT : Tabs w) (hl : l.size ≤ 1000000) (hm : m.size ≤ 1000000) (ha : -1000000000 < a ∧ a < 1000000000) (hb : -1000000000 < b ∧ b < 1000000000) (fa : bytes l = itoa a) (fb : bytes m = itoa b) (hab : a ≤ b) :
    Calls Tryz.prog 158 #[.agg #[.string l, .string m, .bool true]] w fun e w' => e = .returned (.bool true) ∧ Below w.heap.size w w' := by
  have hL := fun W => vwhole_any l W hl
  have hM := fun W => vwhole_any m W hm
  rw [fa, intB_itoa ha] at hL
  rw [fb, intB_itoa hb] at hM
  have HL := Lib.hid hL; have HM := Lib.hid hM
  have HT := Lib.hid hT
  have HIA := Lib.hid (fun W (hW : Below w.heap.size w W) => itoa_at a W ha (hT.step hW))
  have HIB := Lib.hid (fun W (hW : Below w.heap.size w W) => itoa_at b W hb (hT.step hW))
  obtain ⟨FA, hFA⟩ : ∃ F : ByteArray, F = ⟨(itoa a).toArray⟩ := ⟨_, rfl⟩
  obtain ⟨FB, hFB⟩ : ∃ F : ByteArray, F = ⟨(itoa b).toArray⟩ := ⟨_, rfl⟩
  have ya : (FA.toList == l.toList) = true := by rw [hFA, mk_data, Lib.toList_data, beq_iff_eq]; exact fa.symm
  have yb : (FB.toList == m.toList) = true := by rw [hFB, mk_data, Lib.toList_data, beq_iff_eq]; exact fb.symm
  rw [← hFA] at HIA
  rw [← hFB] at HIB
  clear hL hM hT ha hb fa fb hFA hFB
  go_enter Tryz.func158, Tryz.ntmps158
  go_upto_region 1 with (fail)
  obtain ⟨W1, hW1⟩ : ∃ W1, W1 = w.alloc (.cells #[.string l, .string m, .bool true] 51) := ⟨_, rfl⟩
  have HBX := Lib.hid (show Box3 w.heap.size l m true W1 by rw [hW1]; exact Box3.new l m true w _)
  have H1 := Lib.hid (show Below w.heap.size w W1 by rw [hW1]; exact (Below.refl _ _).alloc (Nat.le_refl _) _)
  rw [← hW1]
  clear hW1
  obtain ⟨gb, hgb⟩ : ∃ gb, gb = w.heap.size := ⟨_, rfl⟩
  have HGB := Lib.hid hgb
  rw [← hgb] at HBX ⊢
  clear hgb
  obtain ⟨d0, d1, d2, hlt⟩ := HBX.out
  go_wp2_with fail
  refine (HL.out _).mono ?_; rintro e w2 ⟨rfl, hb⟩
  have HBX2 := Lib.hid (HBX.out.step hb)
  have H2 := Lib.hid (H1.out.on hb)
  clear hb d0 d1 d2 hlt
  obtain ⟨d0, d1, d2, hlt⟩ := HBX2.out
  go_wp2_with fail
  refine (HM.out _).mono ?_; rintro e w3 ⟨rfl, hb⟩
  have HBX3 := Lib.hid (HBX2.out.step hb)
  have H3 := Lib.hid (H2.out.on hb)
  clear hb d0 d1 d2 hlt
  obtain ⟨d0, d1, d2, hlt⟩ := HBX3.out
  go_upto_region 5 with (fail)
  have S0 : (w3.cell? ⟨gb, 0, none⟩ = some (.string l) ∧ w3.cell? ⟨gb, 1, none⟩ = some (.string m)) ∧ (gb < w3.heap.size ∧ Below w.heap.size w w3) := ⟨⟨d0, d1⟩, hlt, H3.out⟩
  have HSTEP := Lib.hid (show ∀ W W', ((W.cell? ⟨gb, 0, none⟩ = some (.string l) ∧ W.cell? ⟨gb, 1, none⟩ = some (.string m)) ∧ (gb < W.heap.size ∧ Below w.heap.size w W)) → Below W.heap.size W W' → ((W'.cell? ⟨gb, 0, none⟩ = some (.string l) ∧ W'.cell? ⟨gb, 1, none⟩ = some (.string m)) ∧ (gb < W'.heap.size ∧ Below w.heap.size w W')) from fun W W' h hb => ⟨⟨(hb.cell (p := ⟨gb, 0, none⟩) h.2.1).trans h.1.1, (hb.cell (p := ⟨gb, 1, none⟩) h.2.1).trans h.1.2⟩, Nat.lt_of_lt_of_le h.2.1 hb.size, h.2.2.on hb⟩)
  clear d0 d1 d2 hlt
  go_region_held3 (fun w' => (w'.cell? ⟨gb, 0, none⟩ = some (.string l) ∧ w'.cell? ⟨gb, 1, none⟩ = some (.string m)) ∧ (gb < w'.heap.size ∧ Below w.heap.size w w')) (first | exact S2 | exact S1 | exact ⟨S0.1, S0.2.1, S0.2.2.drew⟩)
    (first | (go_at_call 54; refine (HIA.out _ S0.2.2.drew).mono ?_; rintro e w4 ⟨rfl, hb4⟩; have S1 := HSTEP.out w3.drew w4 ⟨S0.1, S0.2.1, S0.2.2.drew⟩ hb4) | (go_at_call 54; refine (HIB.out _ S1.2.2).mono ?_; rintro e w5 ⟨rfl, hb5⟩; have S2 := HSTEP.out w4 w5 S1 hb5))
  all_goals
    first
      | (go_wp2_with fail; go_ret; exact ⟨rfl, S2.2.2⟩)
      | (simp [Act.put]; go_wp2_with fail; go_ret; exact ⟨rfl, S2.2.2⟩)
end Go.Proofs.YtaalopiegabghaaGreatDoor
