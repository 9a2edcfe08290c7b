/- Package value: reals, texts. -/
import Derived.Test.YtaalopiegabghaaGreatDoorVInts
namespace Go.Proofs.YtaalopiegabghaaGreatDoor
open Go.RowKit Go.Lib Go.WideShapes

def ownB (l : Bs) : Bool := decide (cE l = 0) && cS l == l
def realR (l m : Bs) : Bool := (ownB l && ownB m) && decide (zC l m ≤ 0)
theorem zE_of_cE {l m : Bs} (h : cE l = 0) (h' : cE m = 0) : zE l m = 0 := by
  unfold cE at h h'
  unfold zE
  cases hl : (numB l).isSome with
  | false => rw [hl] at h; exact absurd h (by decide)
  | true =>
    cases hm : (numB m).isSome with
    | false => rw [hm] at h'; exact absurd h' (by decide)
    | true => rfl
theorem own_cE {l : Bs} (h : ownB l = true) : cE l = 0 := by
  unfold ownB at h
  rw [Bool.and_eq_true] at h
  exact of_decide_eq_true h.1
set_option maxRecDepth 100000 in
set_option maxHeartbeats 8000000 in
theorem realright_any (l m : ByteArray) (p : Bool) (w : World) (hT : Tabs w) (hw : 1 ≤ w.heap.size) (hl : l.size ≤ 1000000) (hm : m.size ≤ 1000000) :
    Calls Tryz.prog 166 #[.agg #[.string l, .string m, .bool p]] w fun e w' => e = .returned (.bool (p && realR (bytes l) (bytes m))) ∧ Below w.heap.size w w' := by
  have hL := fun W hT hw => ownform_any l W hT hw hl
  have hM := fun W hT hw => ownform_any m W hT hw hm
  have hC := fun W hT => cmp_at l m W hT hl hm
  have hz : ownB (bytes l) = true → ownB (bytes m) = true → zE (bytes l) (bytes m) = 0 := fun h h' => zE_of_cE (own_cE h) (own_cE h')
  have HT := Lib.hid hT
  obtain ⟨R, hR⟩ : ∃ R, R = (p && realR (bytes l) (bytes m)) := ⟨_, rfl⟩
  rw [← hR]
  unfold realR at hR
  have hL' : ∀ W, Tabs W → 1 ≤ W.heap.size → Calls Tryz.prog 167 #[.string l] W fun e w' => e = .returned (.bool (ownB (bytes l))) ∧ Below W.heap.size W w' := hL
  have hM' : ∀ W, Tabs W → 1 ≤ W.heap.size → Calls Tryz.prog 167 #[.string m] W fun e w' => e = .returned (.bool (ownB (bytes m))) ∧ Below W.heap.size W w' := hM
  generalize ownB (bytes l) = ol at hL' hR hz
  generalize ownB (bytes m) = om at hM' hR hz
  generalize zC (bytes l) (bytes m) = c at hC hR
  generalize zE (bytes l) (bytes m) = e0 at hC hz
  have HL := Lib.hid hL'; have HM := Lib.hid hM'; have HC := Lib.hid hC; have HRR := Lib.hid hR; have HZ := Lib.hid hz
  clear hL hM hC hL' hM' hR hz hT
  go_enter Tryz.func166, Tryz.ntmps166
  go_upto_region 1 with (fail)
  obtain ⟨W1, hW1⟩ : ∃ W1, W1 = w.alloc (.cells #[.string l, .string m, .bool p] 52) := ⟨_, rfl⟩
  have HBX := Lib.hid (show Box3 w.heap.size l m p W1 by rw [hW1]; exact Box3.new l m p w _)
  have H1 := Lib.hid (show Below w.heap.size w W1 by rw [hW1]; exact (Below.refl _ _).alloc (Nat.le_refl _) _)
  rw [← hW1]
  clear hW1
  obtain ⟨gb, hgb⟩ : ∃ gb, gb = w.heap.size := ⟨_, rfl⟩
  have HGB := Lib.hid hgb
  rw [← hgb] at HBX ⊢
  clear hgb
  obtain ⟨d0, d1, d2, hlt⟩ := HBX.out
  cases p with
  | false =>
    have HR := Lib.hid (show R = false from HRR.out)
    clear HRR
    go_wp2_with fail
    go_ret
    exact ⟨by rw [HR.out]; rfl, H1.out⟩
  | true =>
    go_wp2_with fail
    refine (HL.out _ (HT.out.step H1.out) (Nat.le_trans hw H1.out.size)).mono ?_; rintro e w2 ⟨rfl, hb⟩
    have HBX2 := Lib.hid (HBX.out.step hb)
    have H2 := Lib.hid (H1.out.on hb)
    clear hb d0 d1 d2 hlt
    obtain ⟨d0, d1, d2, hlt⟩ := HBX2.out
    cases ol with
    | false =>
      have HR := Lib.hid (show R = false from HRR.out)
      clear HRR
      go_wp2_with fail
      go_ret
      exact ⟨by rw [HR.out]; rfl, H2.out⟩
    | true =>
      go_wp2_with fail
      refine (HM.out _ (HT.out.step H2.out) (Nat.le_trans hw H2.out.size)).mono ?_; rintro e w3 ⟨rfl, hb⟩
      have HBX3 := Lib.hid (HBX2.out.step hb)
      have H3 := Lib.hid (H2.out.on hb)
      clear hb d0 d1 d2 hlt
      obtain ⟨d0, d1, d2, hlt⟩ := HBX3.out
      cases om with
      | false =>
        have HR := Lib.hid (show R = false from HRR.out)
        clear HRR
        go_wp2_with fail
        go_ret
        exact ⟨by rw [HR.out]; rfl, H3.out⟩
      | true =>
        have hR : R = (true && ((true && true) && decide (c ≤ 0))) := HRR.out
        have he0 : e0 = 0 := by first | exact HZ.out trivial rfl | exact HZ.out rfl rfl
        subst he0
        clear HRR HZ
        have HR := Lib.hid (show R = decide (c ≤ 0) by rw [hR]; rfl)
        clear hR
        go_wp2_with fail
        refine (HC.out _ (HT.out.step H3.out)).mono ?_; rintro e w4 ⟨rfl, hb⟩
        have H4 := Lib.hid (H3.out.on hb)
        clear hb d0 d1 d2 hlt
        go_wp2_with fail
        go_ret
        exact ⟨by rw [HR.out]; rfl, H4.out⟩

def realF (l m s : Bs) : Option Bs := if bB s l m = true then some (cS s) else none
set_option maxRecDepth 100000 in
set_option maxHeartbeats 8000000 in
theorem realcanon_any (l m s : ByteArray) (p : Bool) (w : World) (hT : Tabs w) (hw : 1 ≤ w.heap.size) (hl : l.size ≤ 1000000) (hm : m.size ≤ 1000000) (hs : s.size ≤ 1000000) :
    Calls Tryz.prog 164 #[.agg #[.string l, .string m, .bool p], .string s] w (FormOut (realF (bytes l) (bytes m) (bytes s)) w) := by
  have hB := fun W hT => between_at s l m W hT hs hl hm
  have hC := fun W hT hw => canon_at s W hT hw hs
  have hz : bB (bytes s) (bytes l) (bytes m) = true → bE (bytes s) (bytes l) (bytes m) = 0 ∧ cE (bytes s) = 0 := by
    unfold bB bE cE
    intro h
    rw [Bool.and_eq_true] at h
    rw [if_pos h.1]
    refine ⟨rfl, ?_⟩
    have h1 := h.1
    rw [Bool.and_eq_true, Bool.and_eq_true] at h1
    rw [if_pos h1.1.1]
  have HT := Lib.hid hT
  unfold realF
  obtain ⟨R, hR⟩ : ∃ R : Option Bs, R = (if bB (bytes s) (bytes l) (bytes m) = true then some (cS (bytes s)) else none) := ⟨_, rfl⟩
  rw [← hR]
  generalize bB (bytes s) (bytes l) (bytes m) = q at hB hR hz
  generalize bE (bytes s) (bytes l) (bytes m) = e0 at hB hz
  generalize cE (bytes s) = e1 at hC hz
  obtain ⟨F, hF⟩ : ∃ F : ByteArray, F = ⟨(cS (bytes s)).toArray⟩ := ⟨_, rfl⟩
  rw [← hF] at hC
  have HF := Lib.hid hF
  have HB := Lib.hid hB; have HC := Lib.hid hC; have HRR := Lib.hid hR; have HZ := Lib.hid hz
  clear hB hC hR hz hT hF
  go_enter Tryz.func164, Tryz.ntmps164
  go_upto_region 1 with (fail)
  obtain ⟨W1, hW1⟩ : ∃ W1, W1 = w.alloc (.cells #[.string l, .string m, .bool p] 52) := ⟨_, rfl⟩
  have HBX := Lib.hid (show Box3 w.heap.size l m p W1 by rw [hW1]; exact Box3.new l m p w _)
  have H1 := Lib.hid (show Below w.heap.size w W1 by rw [hW1]; exact (Below.refl _ _).alloc (Nat.le_refl _) _)
  rw [← hW1]
  clear hW1
  obtain ⟨gb, hgb⟩ : ∃ gb, gb = w.heap.size := ⟨_, rfl⟩
  have HGB := Lib.hid hgb
  rw [← hgb] at HBX ⊢
  clear hgb
  obtain ⟨d0, d1, d2, hlt⟩ := HBX.out
  go_wp2_with fail
  refine (HB.out _ (HT.out.step H1.out)).mono ?_; rintro e w2 ⟨rfl, hb⟩
  have H2 := Lib.hid (H1.out.on hb)
  clear hb d0 d1 d2 hlt
  cases q with
  | false =>
    have HR := Lib.hid (show R = none from HRR.out)
    clear HRR HZ
    by_cases h0 : e0 = 0
    · subst h0
      go_wp2_with fail
      go_ret2
      exact ⟨by rw [HR.out]; rfl, H2.out⟩
    · have h0' : (e0 != 0) = true := by rw [bne_iff_ne]; exact h0
      clear h0
      go_wp2_with fail
      go_ret2
      exact ⟨by rw [HR.out]; rfl, H2.out⟩
  | true =>
    have HR := Lib.hid (show R = some (cS (bytes s)) from HRR.out)
    obtain ⟨h1, h2⟩ := HZ.out rfl
    subst h1 h2
    clear HRR HZ
    go_wp2_with fail
    refine (HC.out _ (HT.out.step H2.out) (Nat.le_trans hw H2.out.size)).mono ?_; rintro e w3 ⟨rfl, hb⟩
    have H3 := Lib.hid (H2.out.on hb)
    clear hb
    go_wp2_with fail
    go_ret2
    exact ⟨by rw [HR.out, HF.out]; rfl, H3.out⟩
end Go.Proofs.YtaalopiegabghaaGreatDoor
