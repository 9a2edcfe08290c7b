/- Contracts and mathematics: DDec, DEncX. -/
import Derived.Test.YtfdffiphlpeegaaDoorZ25
import Derived.Test.YtfdffiphlpeegaaDoorZ23
import Derived.Test.YtfdffiphlpeegaaDoorZ7
import Derived.Deep.Cut
namespace Go.Proofs.YtfdffiphlpeegaaDoor
open Go.RowKit Go.Lib Go.WideShapes

/-- What Decode answers for a body. -/
def readD (back : Bool) (c : UInt8) (S : Bs) : Option (List Bs × List Int) := if 10000 < S.length then none else readL back c S

theorem own_three {w : World} {base n : Nat} {e : TypeId} {v : Value} {xs : List Value} (h : w.ownsRow base e 1 v n xs) (b : Nat) (hb : b < base) (v0 v1 v2 : Value) : (((w.setCell ⟨b, 0, none⟩ v0).setCell ⟨b, 1, none⟩ v1).setCell ⟨b, 2, none⟩ v2).ownsRow base e 1 v n xs :=
  ownsRow_setCell_below (ownsRow_setCell_below (ownsRow_setCell_below h (a := ⟨b, 0, none⟩) hb v0) (a := ⟨b, 1, none⟩) hb v1) (a := ⟨b, 2, none⟩) hb v2

set_option maxRecDepth 100000 in
set_option maxHeartbeats 8000000 in
theorem decode_any (w : World) (back : Bool) (c : UInt8) (S : Bs) (hl : S.length ≤ 800000) :
    Calls Tryd.prog 9 #[.bool back, .agg #[.int .u8 (c.toNat : Nat), .string ⟨S.toArray⟩]] w (MsgOut w c 2 (readD back c S)) := by
  obtain ⟨ci, hci⟩ : ∃ ci : Int, ci = (c.toNat : Nat) := ⟨_, rfl⟩
  obtain ⟨sb, hsb⟩ : ∃ sb : ByteArray, sb = ⟨S.toArray⟩ := ⟨_, rfl⟩
  have hsz : sb.size = S.length := by rw [hsb, bsize]
  obtain ⟨W0, hW0⟩ : ∃ x, x = (w.alloc (.cells #[.int .u8 ci, .string sb] 23)).alloc (.cells #[.int .u8 0, .slice none 0 0, .slice none 0 0] 28) := ⟨_, rfl⟩
  have hz : W0.heap.size = w.heap.size + 1 + 1 := by rw [hW0]; simp
  have HB := Lib.hid (show Below w.heap.size w W0 by rw [hW0]; exact ((Below.refl _ _).alloc (Nat.le_refl _) _).alloc (by simp) _)
  have HK := Lib.hid (show ∀ W, Below W0.heap.size W0 W → W.cell? ⟨w.heap.size + 1, 0, none⟩ = some (.int .u8 0) ∧ W.cell? ⟨w.heap.size + 1, 1, none⟩ = some (.slice none 0 0) ∧ W.cell? ⟨w.heap.size + 1, 2, none⟩ = some (.slice none 0 0) ∧ W.frozen? ⟨w.heap.size + 1, 0, none⟩ = false ∧ W.frozen? ⟨w.heap.size + 1, 1, none⟩ = false ∧ W.frozen? ⟨w.heap.size + 1, 2, none⟩ = false from by
    intro W hW
    have k : ∀ i, W.cell? ⟨w.heap.size + 1, i, none⟩ = W0.cell? ⟨w.heap.size + 1, i, none⟩ := fun i => hW.cell (p := ⟨w.heap.size + 1, i, none⟩) (by show w.heap.size + 1 < _; omega)
    have f : ∀ i, W.frozen? ⟨w.heap.size + 1, i, none⟩ = W0.frozen? ⟨w.heap.size + 1, i, none⟩ := fun i => hW.frozen (p := ⟨w.heap.size + 1, i, none⟩) (by show w.heap.size + 1 < _; omega)
    refine ⟨(k 0).trans ?_, (k 1).trans ?_, (k 2).trans ?_, (f 0).trans ?_, (f 1).trans ?_, (f 2).trans ?_⟩ <;> (rw [hW0]; simp [go_sem]))
  have HE := Lib.hid hW0
  have HZ := Lib.hid hz
  have HCI := Lib.hid hci
  have HRD := Lib.hid (read_any W0 back c S hl)
  rw [← hci, ← hsb] at HRD
  rw [← hci, ← hsb]
  by_cases hlong : 10000 < S.length
  · have hl' : (10000 : Int) < sb.size := by omega
    have HR := Lib.hid (show readD back c S = none from if_pos hlong)
    rw [HR.out]
    have b := HK.out W0 (Below.refl _ _)
    clear hW0 hz hsb hsz hci hlong hl
    go_enter Tryd.func9, Tryd.ntmps9
    go_wp2_with fail
    simp [bodyPost, results, Tryd.results9, go_sem]
    refine ⟨rfl, ?_⟩
    first | exact ((Below.refl _ _).alloc (Nat.le_refl _) _).alloc (by simp) _ | exact ((((((Below.refl _ _).alloc (Nat.le_refl _) _).alloc (by simp) _).setCell (by simp) _).setCell (by simp) _).setCell (by simp) _)
  · have hl' : ¬ (10000 : Int) < sb.size := by omega
    have HR := Lib.hid (show readD back c S = readL back c S from if_neg hlong)
    rw [HR.out]
    generalize readL back c S = R at HRD ⊢
    clear hW0 hz hsb hsz hci hlong hl
    go_enter Tryd.func9, Tryd.ntmps9
    go_wp2_with fail
    rw [← HE.out]
    cases R with
    | none =>
      refine HRD.out.mono ?_; rintro e w1 ⟨rfl, hb⟩
      obtain ⟨b0, b1, b2, g0, g1, g2⟩ := HK.out w1 hb
      have HB1 := Lib.hid (HB.out.trans (hb.mono (by rw [HZ.out]; omega)))
      clear hb
      go_wp2_with fail
      simp [bodyPost, results, Tryd.results9, go_sem, b0, b1, b2]
      exact ⟨rfl, ((HB1.out.setCell (by show w.heap.size ≤ w.heap.size + 1; omega) _).setCell (by show w.heap.size ≤ w.heap.size + 1; omega) _).setCell (by show w.heap.size ≤ w.heap.size + 1; omega) _⟩
    | some p =>
      obtain ⟨T, N⟩ := p
      refine HRD.out.mono ?_; rintro e w1 ⟨tv, nv, rfl, hT, hN, hb⟩
      obtain ⟨b0, b1, b2, g0, g1, g2⟩ := HK.out w1 hb
      have HB1 := Lib.hid (HB.out.trans (hb.mono (by rw [HZ.out]; omega)))
      rw [HZ.out] at hT hN
      have HT := Lib.hid hT; have HN := Lib.hid hN
      obtain ⟨ta, tc, rfl⟩ := ownsRow_form hT
      obtain ⟨na, nc, rfl⟩ := ownsRow_form hN
      rw [← HCI.out]
      clear hb hT hN
      go_wp2_with fail
      simp [bodyPost, results, Tryd.results9, go_sem, b0, b1, b2]
      exact ⟨_, _, by rw [HCI.out], own_base (own_three HT.out _ (by omega) _ _ _) (by omega), own_base (own_three HN.out _ (by omega) _ _ _) (by omega), ((HB1.out.setCell (by show w.heap.size ≤ w.heap.size + 1; omega) _).setCell (by show w.heap.size ≤ w.heap.size + 1; omega) _).setCell (by show w.heap.size ≤ w.heap.size + 1; omega) _⟩
end Go.Proofs.YtfdffiphlpeegaaDoor

namespace Go.Proofs.YtfdffiphlpeegaaDoor
open Go.RowKit Go.Lib Go.WideShapes

def encX (c : UInt8) (r : Option Bs) : Int := if encE r = 0 then (c.toNat : Nat) else 0
def encB (r : Option Bs) : ByteArray := if encE r = 0 then ⟨(r.getD []).toArray⟩ else { data := #[] }
theorem encV_form (c : UInt8) (r : Option Bs) : encV c r = .tuple #[.agg #[.int .u8 (encX c r), .string (encB r)], .int .i64 (encE r)] := by
  unfold encV encX encB
  by_cases h : encE r = 0
  · rw [if_pos h, if_pos h, if_pos h]
  · rw [if_neg h, if_neg h, if_neg h]
theorem encE_zero {r : Option Bs} (h : encE r = 0) : ∃ B, r = some B ∧ B.length ≤ 10000 := by
  cases r with
  | none => cases h
  | some B =>
    refine ⟨B, rfl, ?_⟩
    by_cases hb : 10000 < B.length
    · have h3 : encE (some B) = 3 := if_pos hb
      rw [h3] at h; cases h
    · omega
end Go.Proofs.YtfdffiphlpeegaaDoor
