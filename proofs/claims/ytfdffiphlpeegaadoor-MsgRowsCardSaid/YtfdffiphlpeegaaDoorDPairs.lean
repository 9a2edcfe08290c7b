/- The reader: pairs, fields. -/
import Derived.Test.YtfdffiphlpeegaaDoorDLast
namespace Go.Proofs.YtfdffiphlpeegaaDoor
open Go.RowKit Go.Lib Go.WideShapes

theorem row_rel_next {f : RS → Option RS} (hf : ∀ s s', f s = some s' → s'.S.length < s.S.length) {s x x' : RS} {j : Nat} {b : UInt8} {r : Bs} (h : rowN f s = (rowN f x).map fun p => (p.1 + j, p.2)) (hS : x.S = b :: r) (hb : b ≠ 0) (hx : f x = some x') : rowN f s = (rowN f x').map fun p => (p.1 + (j + 1), p.2) := by
  rw [h, rowN_next hf hS hb, hx]
  simp only [Option.bind_some]
  cases rowN f x' with
  | none => rfl
  | some p => simp only [Option.map_some]; rw [show p.1 + 1 + j = p.1 + (j + 1) by omega]
theorem row_rel_none {f : RS → Option RS} (hf : ∀ s s', f s = some s' → s'.S.length < s.S.length) {s x : RS} {j : Nat} {b : UInt8} {r : Bs} (h : rowN f s = (rowN f x).map fun p => (p.1 + j, p.2)) (hS : x.S = b :: r) (hb : b ≠ 0) (hx : f x = none) : rowN f s = none := by
  rw [h, rowN_next hf hS hb, hx]; rfl
theorem row_rel_end {f : RS → Option RS} {s x : RS} {j : Nat} {r : Bs} (h : rowN f s = (rowN f x).map fun p => (p.1 + j, p.2)) (hS : x.S = 0 :: r) : rowN f s = some (j, { x with S := r }) := by
  rw [h, rowN_end hS]; simp
theorem row_rel_nil {f : RS → Option RS} {s x : RS} {j : Nat} (h : rowN f s = (rowN f x).map fun p => (p.1 + j, p.2)) (hS : x.S = []) : rowN f s = none := by
  rw [h, rowN_nil hS]; rfl

set_option maxRecDepth 100000 in
set_option maxHeartbeats 8000000 in
theorem pairs_r (w0 w : World) (s : RS) (hl : droom s ≤ 850000) (h : IsD w0 w s) :
    Calls Tryd.prog 41 #[.pointer (some ⟨w0.heap.size, 0, none⟩)] w (DOut w0 (rPairs s)) := by
  obtain ⟨RT, hRT⟩ : ∃ RT, RT = rPairs s := ⟨_, rfl⟩
  rw [← hRT]
  have HRT := Lib.hid (show RT = (rowN rText s).bind fun p => if p.1 % 2 = 0 then some (rKeep p.1 p.2) else none from hRT)
  have H := Lib.hid h
  clear hRT h
  go_enter Tryd.func41, Tryd.ntmps41
  go_wp2_with fail
  go_loopg [2] s.S.length (fun g n wr => ∃ (j : Nat) (x : RS), n = .int .i64 j ∧ g = x.S.length ∧ j + x.S.length ≤ s.S.length ∧ droom x ≤ 850000 ∧ rowN rText s = (rowN rText x).map (fun p => (p.1 + j, p.2)) ∧ IsD w0 wr x)
  case atStart => exact ⟨0, s, rfl, rfl, by omega, hl, by cases rowN rText s <;> rfl, H.out⟩
  case round =>
    obtain ⟨j, x, rfl, hg, hjx, hrx, hrow, hI⟩ := hrel
    have HG := Lib.hid hg; have HROW := Lib.hid hrow; have HI := Lib.hid hI
    have hjl : j ≤ 1000000 := by unfold droom at hl; omega
    have hSx : x.S.length ≤ 1000000 := by unfold droom at hrx; omega
    clear hg hrow hI
    go_wp2_with fail
    refine (last_any w0 wr x hSx HI.out).mono ?_; rintro e w1 (⟨r, hS, rfl, hI⟩ | ⟨b, r, hS, hb, rfl, hI⟩ | ⟨hS, rfl, hB⟩)
    · have HE := Lib.hid (row_rel_end HROW.out hS)
      have HI1 := Lib.hid hI
      have hN1 : x.N.length ≤ 1000000 := by unfold droom at hrx; omega
      have hmod : (j : Int).tmod 2 = (j : Int) % 2 := Int.tmod_eq_emod_of_nonneg (by omega)
      clear hS hI
      by_cases hp : j % 2 = 0
      · have hp' : ((j : Int) % 2 == 0) = true := by rw [beq_iff_eq]; omega
        have HZ := Lib.hid (show RT = some (rKeep j { x with S := r }) by rw [HRT.out, HE.out]; simp only [Option.bind_some]; rw [if_pos hp])
        clear hp
        go_wp2_with fail
        refine (demand_ok _).mono ?_; rintro e w2 ⟨rfl, rfl⟩
        go_wp2_with fail
        refine (keep_any w0 _ { x with S := r } j hN1 HI1.out).mono ?_; rintro e w3 (⟨s2, h2, rfl, hI⟩ | ⟨h2, _, _⟩)
        case inr => cases h2
        obtain rfl := Option.some.inj h2
        have HI2 := Lib.hid hI
        clear hI h2
        go_wp2_with fail
        go_end0
        exact .inl ⟨_, HZ.out, rfl, HI2.out⟩
      · have hp' : ((j : Int) % 2 == 0) = false := by rw [beq_eq_false_iff_ne]; omega
        have HZ := Lib.hid (show RT = none by rw [HRT.out, HE.out]; simp only [Option.bind_some]; rw [if_neg hp])
        clear hp
        go_wp2_with fail
        refine (demand_no _).mono ?_; rintro e w2 ⟨rfl, rfl⟩
        go_wp2_with fail
        obtain ⟨_, _, hD⟩ := HI1.out
        exact ⟨rfl, .inr ⟨HZ.out, rfl, hD.below⟩⟩
    · have HS := Lib.hid hS; have HB := Lib.hid hb; have HI1 := Lib.hid hI
      clear hS hb hI
      go_wp2_with fail
      refine (text_r w0 w1 x (by omega) HI1.out).mono ?_; rintro e w2 (⟨x', hx, rfl, hI⟩ | ⟨hx, rfl, hB⟩)
      · have HN := Lib.hid (row_rel_next (fun s s' h => (dtext_room h).2) HROW.out HS.out HB.out hx)
        have hd := dtext_room hx
        have hd1 := hd.1
        have hd2 := hd.2
        have HI2 := Lib.hid hI
        clear hx hd hI
        go_wp2_with fail
        go_roundg x'.S.length
        case measure => have := HG.out; omega
        case rel => exact ⟨j + 1, x', by go_num, rfl, by omega, by omega, HN.out, HI2.out⟩
      · have HN := Lib.hid (row_rel_none (fun s s' h => (dtext_room h).2) HROW.out HS.out HB.out hx)
        clear hx
        go_wp2_with fail
        exact ⟨rfl, .inr ⟨HRT.out.trans (by rw [HN.out]; rfl), rfl, hB⟩⟩
    · have HN := Lib.hid (row_rel_nil HROW.out hS)
      clear hS
      go_wp2_with fail
      exact ⟨rfl, .inr ⟨HRT.out.trans (by rw [HN.out]; rfl), rfl, hB⟩⟩
end Go.Proofs.YtfdffiphlpeegaaDoor
