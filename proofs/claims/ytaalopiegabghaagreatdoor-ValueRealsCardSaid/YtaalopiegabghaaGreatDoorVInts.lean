/- Package value: ints and reals. -/
import Derived.Test.YtaalopiegabghaaGreatDoorVKinds
import Derived.Test.YtaalopiegabghaaGreatDoorVI
import Derived.Deep.RegionHeld3
import Derived.Lib.AppendIntMem
namespace Go.Proofs.YtaalopiegabghaaGreatDoor
open Go.RowKit Go.Lib Go.WideShapes

theorem itoa_at (n : Int) (w : World) (h : -1000000000 < n ∧ n < 1000000000) (hT : Tabs w) : Calls Tryz.prog 54 #[.int .i64 n] w fun e w' => e = .returned (.string ⟨(itoa n).toArray⟩) ∧ Below w.heap.size w w' := by
  refine (Tryz.strconv_Itoa n (by omega) (by omega) w hT.u10).mono ?_
  rintro e w' ⟨he, k, os, rfl⟩
  exact ⟨he, below_grow _ _ (Nat.le_refl _) _ _⟩
def intR (l m : Bs) : Bool := match intB l, intB m with
  | some a, some b => (itoa a == l && itoa b == m) && decide (a ≤ b)
  | _, _ => false
def intF (l m s : Bs) : Option Bs := match intB s, intB l, intB m with
  | some n, some a, some b => if a ≤ n ∧ n ≤ b then some (itoa n) else none
  | _, _, _ => none
/-- The cells of a box of two texts and a flag. -/
def Box3 (gb : Nat) (l m : ByteArray) (p : Bool) (w : World) : Prop := w.cell? ⟨gb, 0, none⟩ = some (.string l) ∧ w.cell? ⟨gb, 1, none⟩ = some (.string m) ∧ w.cell? ⟨gb, 2, none⟩ = some (.bool p) ∧ gb < w.heap.size
theorem Box3.new (l m : ByteArray) (p : Bool) (w : World) (t : TypeId) : Box3 w.heap.size l m p (w.alloc (.cells #[.string l, .string m, .bool p] t)) := by
  refine ⟨?_, ?_, ?_, by rw [World.size_alloc]; omega⟩ <;> (rw [World.cell?_alloc_new]; rfl)
theorem Box3.step {gb : Nat} {l m : ByteArray} {p : Bool} {w w' : World} (h : Box3 gb l m p w) (hb : Below w.heap.size w w') : Box3 gb l m p w' :=
  ⟨(hb.cell (p := ⟨gb, 0, none⟩) h.2.2.2).trans h.1, (hb.cell (p := ⟨gb, 1, none⟩) h.2.2.2).trans h.2.1, (hb.cell (p := ⟨gb, 2, none⟩) h.2.2.2).trans h.2.2.1, Nat.lt_of_lt_of_le h.2.2.2 hb.size⟩
theorem intF_out (l m s : Bs) : intF l m s = match intB s, intB l, intB m with
    | some n, some a, some b => if a ≤ n ∧ n ≤ b then some (itoa n) else none
    | _, _, _ => none := rfl
set_option maxRecDepth 100000 in
set_option maxHeartbeats 8000000 in
/-- Of a type that is right: both bounds are ints. -/
theorem intcanon_any (l m s : ByteArray) (p : Bool) (a b : Int) (w : World) (hT : Tabs w) (hl : l.size ≤ 1000000) (hm : m.size ≤ 1000000) (hs : s.size ≤ 1000000) (ha : intB (bytes l) = some a) (hb : intB (bytes m) = some b) :
    Calls Tryz.prog 156 #[.agg #[.string l, .string m, .bool p], .string s] w (FormOut (intF (bytes l) (bytes m) (bytes s)) w) := by
  have HS := Lib.hid (fun W => vwhole_any s W hs)
  have hL := fun W => vwhole_any l W hl
  have hM := fun W => vwhole_any m W hm
  rw [ha] at hL
  rw [hb] at hM
  have HL := Lib.hid hL; have HM := Lib.hid hM
  have HT := Lib.hid hT
  obtain ⟨R, hR⟩ : ∃ R, R = intF (bytes l) (bytes m) (bytes s) := ⟨_, rfl⟩
  rw [← hR]
  rw [intF_out, ha, hb] at hR
  have ra := intB_range ha
  have rb := intB_range hb
  have rn : ∀ n, intB (bytes s) = some n → -1000000000 < n ∧ n < 1000000000 := fun a h => intB_range h
  clear hL hM ha hb hT
  generalize intB (bytes s) = N at HS hR rn
  have HRR := Lib.hid hR; have HRN0 := Lib.hid rn
  clear hR rn
  go_enter Tryz.func156, Tryz.ntmps156
  go_upto_region 1 with (fail)
  obtain ⟨W1, hW1⟩ : ∃ W1, W1 = w.alloc (.cells #[.string l, .string m, .bool p] 51) := ⟨_, rfl⟩
  have HBX := Lib.hid (show Box3 w.heap.size l m p W1 by rw [hW1]; exact Box3.new l m p w _)
  have H1 := Lib.hid (show Below w.heap.size w W1 by rw [hW1]; exact (Below.refl _ _).alloc (Nat.le_refl _) _)
  rw [← hW1]
  clear hW1
  obtain ⟨gb, hgb⟩ : ∃ gb, gb = w.heap.size := ⟨_, rfl⟩
  have HGB := Lib.hid hgb
  rw [← hgb] at HBX ⊢
  clear hgb
  go_wp2_with fail
  refine (HS.out _).mono ?_; rintro e w2 ⟨rfl, hb⟩
  have HBX2 := Lib.hid (HBX.out.step hb)
  have H2 := Lib.hid (H1.out.on hb)
  clear hb
  obtain ⟨d0, d1, d2, hlt⟩ := HBX2.out
  go_wp2_with fail
  refine (HL.out _).mono ?_; rintro e w3 ⟨rfl, hb⟩
  have HBX3 := Lib.hid (HBX2.out.step hb)
  have H3 := Lib.hid (H2.out.on hb)
  clear hb d0 d1 d2 hlt
  obtain ⟨d0, d1, d2, hlt⟩ := HBX3.out
  go_wp2_with fail
  refine (HM.out _).mono ?_; rintro e w4 ⟨rfl, hb⟩
  have H4 := Lib.hid (H3.out.on hb)
  clear hb d0 d1 d2 hlt
  cases N with
  | none =>
    have HR := Lib.hid (show R = none from HRR.out)
    clear HRR HRN0
    go_wp2_with fail
    go_ret2
    exact ⟨by rw [HR.out]; rfl, H4.out⟩
  | some n =>
    have HRN := Lib.hid (HRN0.out n rfl)
    have hR : R = if a ≤ n ∧ n ≤ b then some (itoa n) else none := HRR.out
    clear HRR HRN0
    simp only [Option.getD_some, Option.isSome_some]
    by_cases h1 : a ≤ n
    · by_cases h2 : n ≤ b
      · have HR := Lib.hid (show R = some (itoa n) by rw [hR, if_pos ⟨h1, h2⟩])
        have HI := Lib.hid (fun W (hW : Below w.heap.size w W) => itoa_at n W HRN.out (HT.out.step hW))
        obtain ⟨F, hF⟩ : ∃ F : ByteArray, F = ⟨(itoa n).toArray⟩ := ⟨_, rfl⟩
        rw [← hF] at HI
        have HF := Lib.hid hF
        clear hR hF
        go_wp2_with fail
        refine (HI.out _ H4.out).mono ?_; rintro e w5 ⟨rfl, hb⟩
        have H5 := Lib.hid (H4.out.on hb)
        clear hb
        go_wp2_with fail
        go_ret2
        exact ⟨by rw [HR.out, HF.out]; rfl, H5.out⟩
      · have HR := Lib.hid (show R = none by rw [hR, if_neg (fun h => h2 h.2)])
        have h2' : b < n := by omega
        clear hR h2
        go_wp2_with fail
        go_ret2
        exact ⟨by rw [HR.out]; rfl, H4.out⟩
    · have HR := Lib.hid (show R = none by rw [hR, if_neg (fun h => h1 h.1)])
      have h1' : n < a := by omega
      clear hR h1
      go_wp2_with fail
      go_ret2
      exact ⟨by rw [HR.out]; rfl, H4.out⟩
end Go.Proofs.YtaalopiegabghaaGreatDoor
