/- A float written: Go's strconv.FormatFloat. -/
import Derived.Test.YtaalopiegabghaaGreatDoorFFtoa
import Derived.Lib.SlBytesRow
import Derived.Lib.BufferRead
import Derived.WalkKit
namespace Go.Proofs.YtaalopiegabghaaGreatDoor
open Go.RowKit Go.Lib Go.WideShapes Instr

theorem conv_owned {P : Program} {w : World} {base : Nat} {v : Value} {src e dst : TypeId} (R : ByteArray) (hs : P.underlying src = some (.slice e)) (he : P.underlying e = some (.int .u8)) (hd : P.underlying dst = some .string)
    (h : w.ownsRow base e 1 v R.size (byteCells (bytes R))) : (convert src dst v).run P w = .ok (.string R) w := by
  obtain ⟨hl, h2⟩ := h
  rcases h2 with ⟨rfl, h0⟩ | ⟨g, cap, cur, rfl, hb, hg, hn, hm, hc, ht⟩
  · have hR : R = ByteArray.empty := by
      apply ByteArray.ext; apply Array.toList_inj.1
      have : R.data.toList.length = 0 := by rw [blen]; exact h0
      simpa using List.eq_nil_of_length_eq_zero this
    subst hR
    exact run_convert_nil_bytes w src dst e 0 hs he hd
  · refine run_convert_whole w src e dst hs he hd g 0 R ?_ cap
    intro i hi
    rw [Nat.zero_add, cell_of_row w g i cur e (0, 0) hg]
    have hu : (byteCells (bytes R))[i]? = some (.int .u8 (R[i].toNat : Int)) := by
      simp only [byteCells, bytes, List.getElem?_map]
      have : R.data.toList[i]? = some R[i] := by
        rw [List.getElem?_eq_getElem (by rw [blen]; exact hi)]; rfl
      rw [this]; rfl
    rw [← ht, List.getElem?_take] at hu
    split at hu
    · simpa using hu
    · cases hu


set_option maxRecDepth 100000 in
set_option maxHeartbeats 4000000 in
theorem format_in (w : World) (neg : Bool) (X b : Nat) (hT : Tabs w) (hw : 1 ≤ w.heap.size) (hX : FltOf neg X b) :
    Calls Tryz.prog 31 #[.float .f64 b, .int .u8 102, .int .i64 (-1), .int .i64 64] w fun e w' => e = .returned (.string ⟨(milText neg X).toArray⟩) ∧ Below w.heap.size w w' := by
  obtain ⟨i0, hi, hz0, hz1, hz2⟩ := info_parts Tryz.info5
  obtain ⟨R, hR⟩ : ∃ R, R = milText neg X := ⟨_, rfl⟩
  have HF := Lib.hid (fun W B v hT hB hBw hv => ftoa_any W B v neg X b hT hB hBw hv hX)
  rw [← hR] at HF ⊢
  have HT := Lib.hid hT
  clear hX hR hT
  go_enter Tryz.func31, Tryz.ntmps31
  go_wp2_with (at_make; refine wpList_make_own _ rfl _ _ 67 rfl w.heap.size 5 i0 (.int .u8 0) 1 Tryz.underlying67 hi hz0 hz1 _ _ _ 24 rfl rfl ?bb ?b1 ?b2 ?b3 ?_)
  case bb => decide
  case b1 => rw [hz2]; decide
  case b2 => unfold maxLen; decide
  case b3 => exact Nat.le_refl _
  intro w1 hown hgrow
  have hb1 : Below w.heap.size w w1 := (Below.refl _ _).grown hgrow (Nat.le_refl _) (by simp)
  have HB1 := Lib.hid hb1
  have HX := Lib.hid (HF.out w1 w.heap.size _ (HT.out.step hb1) hw hb1.size hown)
  clear hown hgrow hb1
  go_wp2_with fail
  refine HX.out.mono ?_; rintro e w2 ⟨v', rfl, hO, hbl⟩
  have HCV := conv_owned (P := Tryz.prog) (src := 67) (dst := 9) ⟨R.toArray⟩ rfl rfl rfl (by rw [bsize]; exact hO)
  have HB2 := Lib.hid (HB1.out.trans hbl)
  clear hO hbl
  go_wp2_with fail
  go_ret
  exact ⟨rfl, HB2.out⟩

/-- strconv.FormatFloat(x, 'f', -1, 64). -/
theorem formatfloat (w : World) (neg : Bool) (X b : Nat) (hT : Tabs w) (hw : 1 ≤ w.heap.size) (hX : FltOf neg X b) :
    Calls Tryz.prog 24 #[.float .f64 b, .int .u8 102, .int .i64 (-1), .int .i64 64] w fun e w' => e = .returned (.string ⟨(milText neg X).toArray⟩) ∧ Below w.heap.size w w' := by
  have HF := Lib.hid (format_in w neg X b hT hw hX)
  obtain ⟨R, hR⟩ : ∃ R, R = milText neg X := ⟨_, rfl⟩
  rw [← hR] at HF ⊢
  clear hR hX
  go_enter Tryz.func24, Tryz.ntmps24
  go_wp2_with fail
  refine HF.out.mono ?_; rintro e w2 ⟨rfl, hb⟩
  go_wp2_with fail
  go_ret
  exact ⟨rfl, hb⟩
end Go.Proofs.YtaalopiegabghaaGreatDoor
