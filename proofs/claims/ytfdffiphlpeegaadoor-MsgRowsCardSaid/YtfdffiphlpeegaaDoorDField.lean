/- The reader: a field, by its kind. -/
import Derived.Test.YtfdffiphlpeegaaDoorDCnt
import Derived.Test.YtfdffiphlpeegaaDoorELook
namespace Go.Proofs.YtfdffiphlpeegaaDoor
open Go.RowKit Go.Lib Go.WideShapes

set_option maxRecDepth 100000 in
set_option maxHeartbeats 4000000 in
theorem dfield_115 (w0 w : World) (s : RS) (hr : droom s ≤ 850000) (h : IsD w0 w s) :
    Calls Tryd.prog 25 #[.pointer (some ⟨w0.heap.size, 0, none⟩), .int .u8 115] w (DOut w0 (rText s)) := by
  have HN := Lib.hid (text_r w0 w s (by omega) h)
  obtain ⟨R, hR⟩ : ∃ R, R = rText s := ⟨_, rfl⟩
  rw [← hR] at HN ⊢
  clear hR h hr
  go_enter Tryd.func25, Tryd.ntmps25
  go_wp2_with fail
  refine HN.out.mono ?_; rintro e w1 (⟨s1, hs, rfl, hW⟩ | ⟨hs, rfl, hB⟩)
  · have HS := Lib.hid hs; have HW := Lib.hid hW
    clear hs hW
    go_wp2_with fail
    go_end0
    exact .inl ⟨s1, HS.out, rfl, HW.out⟩
  · have HS := Lib.hid hs
    clear hs
    go_wp2_with fail
    exact ⟨rfl, .inr ⟨HS.out, rfl, hB⟩⟩

set_option maxRecDepth 100000 in
set_option maxHeartbeats 4000000 in
theorem dfield_105 (w0 w : World) (s : RS) (hr : droom s ≤ 850000) (h : IsD w0 w s) :
    Calls Tryd.prog 25 #[.pointer (some ⟨w0.heap.size, 0, none⟩), .int .u8 105] w (DOut w0 (rLong s)) := by
  have HN := Lib.hid (long_r w0 w s (by omega) h)
  obtain ⟨R, hR⟩ : ∃ R, R = rLong s := ⟨_, rfl⟩
  rw [← hR] at HN ⊢
  clear hR h hr
  go_enter Tryd.func25, Tryd.ntmps25
  go_wp2_with fail
  refine HN.out.mono ?_; rintro e w1 (⟨s1, hs, rfl, hW⟩ | ⟨hs, rfl, hB⟩)
  · have HS := Lib.hid hs; have HW := Lib.hid hW
    clear hs hW
    go_wp2_with fail
    go_end0
    exact .inl ⟨s1, HS.out, rfl, HW.out⟩
  · have HS := Lib.hid hs
    clear hs
    go_wp2_with fail
    exact ⟨rfl, .inr ⟨HS.out, rfl, hB⟩⟩

set_option maxRecDepth 100000 in
set_option maxHeartbeats 4000000 in
theorem dfield_112 (w0 w : World) (s : RS) (hr : droom s ≤ 850000) (h : IsD w0 w s) :
    Calls Tryd.prog 25 #[.pointer (some ⟨w0.heap.size, 0, none⟩), .int .u8 112] w (DOut w0 (rPairs s)) := by
  have HN := Lib.hid (pairs_r w0 w s hr h)
  obtain ⟨R, hR⟩ : ∃ R, R = rPairs s := ⟨_, rfl⟩
  rw [← hR] at HN ⊢
  clear hR h hr
  go_enter Tryd.func25, Tryd.ntmps25
  go_wp2_with fail
  refine HN.out.mono ?_; rintro e w1 (⟨s1, hs, rfl, hW⟩ | ⟨hs, rfl, hB⟩)
  · have HS := Lib.hid hs; have HW := Lib.hid hW
    clear hs hW
    go_wp2_with fail
    go_end0
    exact .inl ⟨s1, HS.out, rfl, HW.out⟩
  · have HS := Lib.hid hs
    clear hs
    go_wp2_with fail
    exact ⟨rfl, .inr ⟨HS.out, rfl, hB⟩⟩

set_option maxRecDepth 100000 in
set_option maxHeartbeats 4000000 in
theorem dfield_102 (w0 w : World) (s : RS) (hr : droom s ≤ 850000) (h : IsD w0 w s) :
    Calls Tryd.prog 25 #[.pointer (some ⟨w0.heap.size, 0, none⟩), .int .u8 102] w (DOut w0 (rFields s)) := by
  have HN := Lib.hid (fields_r w0 w s hr h)
  obtain ⟨R, hR⟩ : ∃ R, R = rFields s := ⟨_, rfl⟩
  rw [← hR] at HN ⊢
  clear hR h hr
  go_enter Tryd.func25, Tryd.ntmps25
  go_wp2_with fail
  refine HN.out.mono ?_; rintro e w1 (⟨s1, hs, rfl, hW⟩ | ⟨hs, rfl, hB⟩)
  · have HS := Lib.hid hs; have HW := Lib.hid hW
    clear hs hW
    go_wp2_with fail
    go_end0
    exact .inl ⟨s1, HS.out, rfl, HW.out⟩
  · have HS := Lib.hid hs
    clear hs
    go_wp2_with fail
    exact ⟨rfl, .inr ⟨HS.out, rfl, hB⟩⟩

set_option maxRecDepth 100000 in
set_option maxHeartbeats 4000000 in
theorem dfield_99 (w0 w : World) (s : RS) (hr : droom s ≤ 850000) (h : IsD w0 w s) :
    Calls Tryd.prog 25 #[.pointer (some ⟨w0.heap.size, 0, none⟩), .int .u8 99] w (DOut w0 (rCounted rShort s)) := by
  have HN := Lib.hid (counted_short_r w0 w s rShort (fun W s hs h => short_r w0 W s hs h) nar_short hr h)
  obtain ⟨R, hR⟩ : ∃ R, R = rCounted rShort s := ⟨_, rfl⟩
  rw [← hR] at HN ⊢
  clear hR h hr
  go_enter Tryd.func25, Tryd.ntmps25
  go_wp2_with fail
  refine HN.out.mono ?_; rintro e w1 (⟨s1, hs, rfl, hW⟩ | ⟨hs, rfl, hB⟩)
  · have HS := Lib.hid hs; have HW := Lib.hid hW
    clear hs hW
    go_wp2_with fail
    go_end0
    exact .inl ⟨s1, HS.out, rfl, HW.out⟩
  · have HS := Lib.hid hs
    clear hs
    go_wp2_with fail
    exact ⟨rfl, .inr ⟨HS.out, rfl, hB⟩⟩

set_option maxRecDepth 100000 in
set_option maxHeartbeats 4000000 in
theorem dfield_108 (w0 w : World) (s : RS) (hr : droom s ≤ 850000) (h : IsD w0 w s) :
    Calls Tryd.prog 25 #[.pointer (some ⟨w0.heap.size, 0, none⟩), .int .u8 108] w (DOut w0 (rCounted rLong s)) := by
  have HN := Lib.hid (counted_long_r w0 w s rLong (fun W s hs h => long_r w0 W s hs h) nar_long hr h)
  obtain ⟨R, hR⟩ : ∃ R, R = rCounted rLong s := ⟨_, rfl⟩
  rw [← hR] at HN ⊢
  clear hR h hr
  go_enter Tryd.func25, Tryd.ntmps25
  go_wp2_with fail
  refine HN.out.mono ?_; rintro e w1 (⟨s1, hs, rfl, hW⟩ | ⟨hs, rfl, hB⟩)
  · have HS := Lib.hid hs; have HW := Lib.hid hW
    clear hs hW
    go_wp2_with fail
    go_end0
    exact .inl ⟨s1, HS.out, rfl, HW.out⟩
  · have HS := Lib.hid hs
    clear hs
    go_wp2_with fail
    exact ⟨rfl, .inr ⟨HS.out, rfl, hB⟩⟩

set_option maxRecDepth 100000 in
set_option maxHeartbeats 4000000 in
theorem dfield_118 (w0 w : World) (s : RS) (hr : droom s ≤ 850000) (h : IsD w0 w s) :
    Calls Tryd.prog 25 #[.pointer (some ⟨w0.heap.size, 0, none⟩), .int .u8 118] w (DOut w0 (rCounted rValue s)) := by
  have HN := Lib.hid (counted_value_r w0 w s rValue (fun W s hs h => value_r w0 W s hs h) nar_value hr h)
  obtain ⟨R, hR⟩ : ∃ R, R = rCounted rValue s := ⟨_, rfl⟩
  rw [← hR] at HN ⊢
  clear hR h hr
  go_enter Tryd.func25, Tryd.ntmps25
  go_wp2_with fail
  refine HN.out.mono ?_; rintro e w1 (⟨s1, hs, rfl, hW⟩ | ⟨hs, rfl, hB⟩)
  · have HS := Lib.hid hs; have HW := Lib.hid hW
    clear hs hW
    go_wp2_with fail
    go_end0
    exact .inl ⟨s1, HS.out, rfl, HW.out⟩
  · have HS := Lib.hid hs
    clear hs
    go_wp2_with fail
    exact ⟨rfl, .inr ⟨HS.out, rfl, hB⟩⟩

set_option maxRecDepth 100000 in
set_option maxHeartbeats 4000000 in
theorem dfield_109 (w0 w : World) (s : RS) (hr : droom s ≤ 850000) (h : IsD w0 w s) :
    Calls Tryd.prog 25 #[.pointer (some ⟨w0.heap.size, 0, none⟩), .int .u8 109] w (DOut w0 (rCounted rName s)) := by
  have HN := Lib.hid (counted_name_r w0 w s rName (fun W s hs h => name_r w0 W s hs h) nar_name hr h)
  obtain ⟨R, hR⟩ : ∃ R, R = rCounted rName s := ⟨_, rfl⟩
  rw [← hR] at HN ⊢
  clear hR h hr
  go_enter Tryd.func25, Tryd.ntmps25
  go_wp2_with fail
  refine HN.out.mono ?_; rintro e w1 (⟨s1, hs, rfl, hW⟩ | ⟨hs, rfl, hB⟩)
  · have HS := Lib.hid hs; have HW := Lib.hid hW
    clear hs hW
    go_wp2_with fail
    go_end0
    exact .inl ⟨s1, HS.out, rfl, HW.out⟩
  · have HS := Lib.hid hs
    clear hs
    go_wp2_with fail
    exact ⟨rfl, .inr ⟨HS.out, rfl, hB⟩⟩

set_option maxRecDepth 100000 in
set_option maxHeartbeats 4000000 in
theorem dfield_98 (w0 w : World) (s : RS) (hr : droom s ≤ 850000) (h : IsD w0 w s) :
    Calls Tryd.prog 25 #[.pointer (some ⟨w0.heap.size, 0, none⟩), .int .u8 98] w (DOut w0 (rByte s)) := by
  have HU := Lib.hid (unsigned_any w0 w s 1 (by decide) (by unfold droom at hr; omega) h)
  have HUO := Lib.hid (show ∀ n s', rUnsigned 1 s = some (n, s') → s'.N.length ≤ 1000000 from by
    intro n s' e
    unfold rUnsigned at e
    cases hy : rTake 1 s with
    | none => rw [hy] at e; cases e
    | some p =>
      obtain ⟨b, s1⟩ := p
      rw [hy] at e
      simp only [Option.map_some, Option.some.injEq, Prod.mk.injEq] at e
      obtain ⟨_, rfl⟩ := e
      rw [(take_out hy).2.2.2]
      unfold droom at hr; omega)
  unfold rByte
  generalize rUnsigned 1 s = U at HU HUO ⊢
  clear h hr
  go_enter Tryd.func25, Tryd.ntmps25
  go_wp2_with fail
  refine HU.out.mono ?_; rintro e w2 (⟨n, s1, rfl, rfl, hI⟩ | ⟨rfl, rfl, hB⟩)
  · have hN1 := HUO.out n s1 rfl
    have HI2 := Lib.hid hI
    clear hI
    go_wp2_with fail
    refine (keep_any w0 w2 s1 n hN1 HI2.out).mono ?_; rintro e w3 (⟨s2, h2, rfl, hI⟩ | ⟨h2, _, _⟩)
    case inr => cases h2
    obtain rfl := Option.some.inj h2
    have HI3 := Lib.hid hI
    clear hI h2
    go_wp2_with fail
    go_end0
    exact .inl ⟨_, rfl, rfl, HI3.out⟩
  · go_wp2_with fail
    exact ⟨rfl, .inr ⟨rfl, rfl, hB⟩⟩

theorem dfield_any (w0 w : World) (s : RS) (c : UInt8) (hc : letter c = true) (hr : droom s ≤ 850000) (h : IsD w0 w s) :
    Calls Tryd.prog 25 #[.pointer (some ⟨w0.heap.size, 0, none⟩), .int .u8 (c.toNat : Nat)] w (DOut w0 (rField c s)) := by
  have hm : c = 115 ∨ c = 98 ∨ c = 105 ∨ c = 112 ∨ c = 102 ∨ c = 99 ∨ c = 108 ∨ c = 118 ∨ c = 109 := by
    simpa [letter] using hc
  rcases hm with rfl | rfl | rfl | rfl | rfl | rfl | rfl | rfl | rfl
  · exact dfield_115 w0 w s hr h
  · exact dfield_98 w0 w s hr h
  · exact dfield_105 w0 w s hr h
  · exact dfield_112 w0 w s hr h
  · exact dfield_102 w0 w s hr h
  · exact dfield_99 w0 w s hr h
  · exact dfield_108 w0 w s hr h
  · exact dfield_118 w0 w s hr h
  · exact dfield_109 w0 w s hr h
end Go.Proofs.YtfdffiphlpeegaaDoor
