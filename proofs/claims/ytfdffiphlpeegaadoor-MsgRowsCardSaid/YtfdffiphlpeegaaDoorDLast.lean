/- The reader: what ends a row; names. -/
import Derived.Test.YtfdffiphlpeegaaDoorDRM
namespace Go.Proofs.YtfdffiphlpeegaaDoor
open Go.RowKit Go.Lib Go.WideShapes

/-- What the look for an end leaves. -/
def LastOut (w0 : World) (s : RS) (e : Ending) (w' : World) : Prop :=
  (∃ r, s.S = 0 :: r ∧ e = .returned (.bool true) ∧ IsD w0 w' { s with S := r }) ∨ (∃ b r, s.S = b :: r ∧ b ≠ 0 ∧ e = .returned (.bool false) ∧ IsD w0 w' s) ∨ (s.S = [] ∧ Lost w0 e w')

set_option maxRecDepth 100000 in
set_option maxHeartbeats 4000000 in
theorem last_any (w0 w : World) (s : RS) (hl : s.S.length ≤ 1000000) (h : IsD w0 w s) :
    Calls Tryd.prog 64 #[.pointer (some ⟨w0.heap.size, 0, none⟩)] w (LastOut w0 s) := by
  obtain ⟨tv, nv, hW⟩ := h
  have c0 := hW.c0
  have HW := Lib.hid hW
  clear hW
  obtain ⟨S, T, N⟩ := s
  cases S with
  | nil =>
    replace c0 : w.cell? ⟨w0.heap.size, 0, none⟩ = some (.string { data := #[] }) := c0
    go_enter Tryd.func64, Tryd.ntmps64
    go_wp2_with fail
    refine (demand_no _).mono ?_; rintro e w1 ⟨rfl, rfl⟩
    go_wp2_with fail
    exact ⟨rfl, .inr (.inr ⟨rfl, rfl, HW.out.below⟩)⟩
  | cons b r =>
    obtain ⟨sb, hsb⟩ : ∃ sb : ByteArray, sb = ⟨(b :: r).toArray⟩ := ⟨_, rfl⟩
    have hsz : sb.size = r.length + 1 := by rw [hsb, bsize]; rfl
    have h0 : 0 < sb.size := by omega
    have h0' : (0 : Int) < sb.size := by omega
    have hb0 : sb[0] = b := by subst hsb; rfl
    have hne : (sb.toList == ([] : List UInt8)) = false := by
      rw [toList_eq, beq_eq_false_iff_ne]; intro e
      rw [hsb] at e; cases e
    replace c0 : w.cell? ⟨w0.heap.size, 0, none⟩ = some (.string sb) := by rw [hsb]; exact c0
    have HB0 := Lib.hid hb0
    have HTK := Lib.hid (fun W (hD : DAt w0 W ⟨b :: r, T, N⟩ tv nv) => take_is (n := 1) (b := [b]) (s1 := ⟨r, T, N⟩) (by unfold rTake; rw [if_pos (by show 1 ≤ (b :: r).length; simp)]; rfl) hl hD)
    clear hsb hsz hb0
    by_cases hb : b = 0
    · have hbb : ((sb[0].toNat : Int) != 0) = false := by rw [HB0.out, hb]; rfl
      have HBB := Lib.hid hb
      clear hb
      go_enter Tryd.func64, Tryd.ntmps64
      go_wp2_with fail
      refine (demand_ok _).mono ?_; rintro e w1 ⟨rfl, rfl⟩
      go_wp2_with fail
      refine (HTK.out _ HW.out).mono ?_; rintro e w2 ⟨rfl, hW2⟩
      have HW2 := Lib.hid hW2
      clear hW2
      go_wp2_with fail
      go_ret
      exact .inl ⟨r, by rw [HBB.out], rfl, _, _, HW2.out⟩
    · have hbb : ((sb[0].toNat : Int) != 0) = true := by
        rw [HB0.out, bne_iff_ne]; intro e
        exact hb (UInt8.toNat_inj.mp (by have : b.toNat = 0 := by omega
                                         exact this))
      have HBB := Lib.hid hb
      clear hb
      go_enter Tryd.func64, Tryd.ntmps64
      go_wp2_with fail
      refine (demand_ok _).mono ?_; rintro e w1 ⟨rfl, rfl⟩
      go_wp2_with fail
      go_ret
      exact .inr (.inl ⟨b, r, rfl, HBB.out, rfl, _, _, HW.out⟩)

theorem all_zero {b : Bs} (h : b.length = 18) : (∀ x ∈ b, x = 0) ↔ b = List.replicate 18 0 := by
  rw [List.eq_replicate_iff]
  exact ⟨fun hx => ⟨h, hx⟩, fun hx => hx.2⟩

set_option maxRecDepth 100000 in
set_option maxHeartbeats 4000000 in
theorem name_r (w0 w : World) (s : RS) (hl : droom s ≤ 900000) (h : IsD w0 w s) :
    Calls Tryd.prog 46 #[.pointer (some ⟨w0.heap.size, 0, none⟩)] w (DOut w0 (rName s)) := by
  have HT := Lib.hid (text_r w0 w s hl h)
  have HTR := Lib.hid (fun s' => dtext_room (s := s) (s' := s'))
  unfold rName
  generalize rText s = R at HT HTR ⊢
  clear h
  go_enter Tryd.func46, Tryd.ntmps46
  go_wp2_with fail
  refine HT.out.mono ?_; rintro e w1 (⟨s1, rfl, rfl, hI⟩ | ⟨rfl, rfl, hB⟩)
  · have hl1 : s1.S.length ≤ 1000000 := by have := (HTR.out s1 rfl).1; unfold droom at this hl; omega
    have HK := Lib.hid (take_any w0 w1 s1 18 hl1 hI)
    have HTO := Lib.hid (fun b s' => take_out (k := 18) (s := s1) (b := b) (s' := s'))
    obtain ⟨RT, hRT⟩ : ∃ RT, RT = rTail s1 := ⟨_, rfl⟩
    have HG := Lib.hid (show (some s1).bind rTail = RT from hRT.symm)
    unfold rTail at hRT
    generalize rTake 18 s1 = R1 at HK hRT HTO
    have HRT := Lib.hid hRT
    clear hI hRT HT
    go_wp2_with fail
    refine HK.out.mono ?_; rintro e w2 (⟨b, s2, rfl, rfl, hI⟩ | ⟨rfl, rfl, hB⟩)
    · have hbl := (HTO.out b s2 rfl).2.1
      have HI := Lib.hid hI
      have HA := Lib.hid (all_zero hbl)
      have HTM := Lib.hid (trim_any ⟨b.toArray⟩ w2 (by rw [bsize, hbl]; decide) (by rw [bsize, hbl]; decide))
      have HBB := Lib.hid (show bytes (⟨b.toArray⟩ : ByteArray) = b by simp [bytes])
      rw [HBB.out] at HTM
      clear hI hbl
      go_wp2_with fail
      refine HTM.out.mono ?_; rintro e w3 ⟨r, rfl, hr, hB3⟩
      have HB3 := Lib.hid hB3
      have HR := Lib.hid hr
      clear hB3 hr
      by_cases hz : r.size = 0
      · have he : (r.toList == ([] : List UInt8)) = true := by
          rw [toList_eq]
          have : bytes r = [] := List.length_eq_zero_iff.1 (by rw [blen]; exact hz)
          rw [show r.data.toList = [] from this]; rfl
        have HZ := Lib.hid (show RT = some s2 by rw [HRT.out]; simp only [Option.bind_some]; rw [if_pos (HA.out.1 (HR.out.1 hz))])
        clear hz
        go_wp2_with fail
        refine (demand_ok _).mono ?_; rintro e w4 ⟨rfl, rfl⟩
        go_wp2_with fail
        go_end0
        obtain ⟨tv, nv, hD⟩ := HI.out
        exact .inl ⟨s2, HG.out.trans HZ.out, rfl, tv, nv, hD.grow HB3.out⟩
      · have he : (r.toList == ([] : List UInt8)) = false := by
          rw [toList_eq, beq_eq_false_iff_ne]; intro e
          exact hz (by rw [← blen, show bytes r = [] from e]; rfl)
        have HZ := Lib.hid (show RT = none by rw [HRT.out]; simp only [Option.bind_some]; rw [if_neg (fun h => hz (HR.out.2 (HA.out.2 h)))])
        clear hz
        go_wp2_with fail
        refine (demand_no _).mono ?_; rintro e w4 ⟨rfl, rfl⟩
        go_wp2_with fail
        obtain ⟨tv, nv, hD⟩ := HI.out
        exact ⟨rfl, .inr ⟨HG.out.trans HZ.out, rfl, (hD.grow HB3.out).below⟩⟩
    · go_wp2_with fail
      exact ⟨rfl, .inr ⟨HG.out.trans HRT.out, rfl, hB⟩⟩
  · go_wp2_with fail
    exact ⟨rfl, .inr ⟨rfl, rfl, hB⟩⟩
end Go.Proofs.YtfdffiphlpeegaaDoor
