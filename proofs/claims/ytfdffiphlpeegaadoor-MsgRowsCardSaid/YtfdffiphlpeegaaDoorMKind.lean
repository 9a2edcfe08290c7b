/- A message's field, written, by its kind. -/
import Derived.Test.YtfdffiphlpeegaaDoorMField
namespace Go.Proofs.YtfdffiphlpeegaaDoor
open Go.RowKit Go.Lib Go.WideShapes

set_option maxRecDepth 100000 in
set_option maxHeartbeats 4000000 in
theorem field_115 (w0 w : World) (s : WS) (hr : room s ≤ 800000) (h : IsW w0 w s) :
    Calls Tryd.prog 33 #[.pointer (some ⟨w0.heap.size, 0, none⟩), .int .u8 115] w (WOut w0 (wText s)) := by
  have HN := Lib.hid (text_any w0 w s (by omega) h)
  obtain ⟨R, hR⟩ : ∃ R, R = wText s := ⟨_, rfl⟩
  rw [← hR] at HN ⊢
  clear hR h hr
  go_enter Tryd.func33, Tryd.ntmps33
  go_wp2_with fail
  refine HN.out.mono ?_; rintro e w1 (⟨s1, hs, rfl, hW⟩ | ⟨hs, rfl, hB⟩)
  · have HS := Lib.hid hs; have HW := Lib.hid hW
    clear hs hW
    go_wp2_with fail
    go_end0
    exact .inl ⟨s1, HS.out, rfl, HW.out⟩
  · have HS := Lib.hid hs
    clear hs
    go_wp2_with fail
    exact ⟨rfl, .inr ⟨HS.out, rfl, hB⟩⟩

set_option maxRecDepth 100000 in
set_option maxHeartbeats 4000000 in
theorem field_98 (w0 w : World) (s : WS) (hr : room s ≤ 800000) (h : IsW w0 w s) :
    Calls Tryd.prog 33 #[.pointer (some ⟨w0.heap.size, 0, none⟩), .int .u8 98] w (WOut w0 (wByte s)) := by
  have HN := Lib.hid (number_any w0 w s 0 255 1 (by omega) (by omega) (by omega) (Nat.le_trans (room_B s) (by omega)) h)
  obtain ⟨R, hR⟩ : ∃ R, R = wByte s := ⟨_, rfl⟩
  rw [← hR]
  unfold wByte at hR
  generalize hx : wNumber 0 255 1 s = r at HN hR
  have HR := Lib.hid hR
  clear hx hR h hr
  go_enter Tryd.func33, Tryd.ntmps33
  go_wp2_with fail
  refine HN.out.mono ?_; rintro e w1 (⟨k, s1, rfl, rfl, hW⟩ | ⟨rfl, rfl, hB⟩)
  · have HW := Lib.hid hW
    clear hW
    go_wp2_with fail
    go_end0
    exact .inl ⟨s1, HR.out, rfl, HW.out⟩
  · go_wp2_with fail
    exact ⟨rfl, .inr ⟨HR.out, rfl, hB⟩⟩

set_option maxRecDepth 100000 in
set_option maxHeartbeats 4000000 in
theorem field_105 (w0 w : World) (s : WS) (hr : room s ≤ 800000) (h : IsW w0 w s) :
    Calls Tryd.prog 33 #[.pointer (some ⟨w0.heap.size, 0, none⟩), .int .u8 105] w (WOut w0 (wLong s)) := by
  have HN := Lib.hid (long_any w0 w s (by omega) h)
  obtain ⟨R, hR⟩ : ∃ R, R = wLong s := ⟨_, rfl⟩
  rw [← hR] at HN ⊢
  clear hR h hr
  go_enter Tryd.func33, Tryd.ntmps33
  go_wp2_with fail
  refine HN.out.mono ?_; rintro e w1 (⟨s1, hs, rfl, hW⟩ | ⟨hs, rfl, hB⟩)
  · have HS := Lib.hid hs; have HW := Lib.hid hW
    clear hs hW
    go_wp2_with fail
    go_end0
    exact .inl ⟨s1, HS.out, rfl, HW.out⟩
  · have HS := Lib.hid hs
    clear hs
    go_wp2_with fail
    exact ⟨rfl, .inr ⟨HS.out, rfl, hB⟩⟩

set_option maxRecDepth 100000 in
set_option maxHeartbeats 4000000 in
theorem field_112 (w0 w : World) (s : WS) (hr : room s ≤ 800000) (h : IsW w0 w s) :
    Calls Tryd.prog 33 #[.pointer (some ⟨w0.heap.size, 0, none⟩), .int .u8 112] w (WOut w0 (wPairs s)) := by
  have HN := Lib.hid (pairs_any w0 w s hr h)
  obtain ⟨R, hR⟩ : ∃ R, R = wPairs s := ⟨_, rfl⟩
  rw [← hR] at HN ⊢
  clear hR h hr
  go_enter Tryd.func33, Tryd.ntmps33
  go_wp2_with fail
  refine HN.out.mono ?_; rintro e w1 (⟨s1, hs, rfl, hW⟩ | ⟨hs, rfl, hB⟩)
  · have HS := Lib.hid hs; have HW := Lib.hid hW
    clear hs hW
    go_wp2_with fail
    go_end0
    exact .inl ⟨s1, HS.out, rfl, HW.out⟩
  · have HS := Lib.hid hs
    clear hs
    go_wp2_with fail
    exact ⟨rfl, .inr ⟨HS.out, rfl, hB⟩⟩

set_option maxRecDepth 100000 in
set_option maxHeartbeats 4000000 in
theorem field_102 (w0 w : World) (s : WS) (hr : room s ≤ 800000) (h : IsW w0 w s) :
    Calls Tryd.prog 33 #[.pointer (some ⟨w0.heap.size, 0, none⟩), .int .u8 102] w (WOut w0 (wFields s)) := by
  have HN := Lib.hid (fields_any w0 w s hr h)
  obtain ⟨R, hR⟩ : ∃ R, R = wFields s := ⟨_, rfl⟩
  rw [← hR] at HN ⊢
  clear hR h hr
  go_enter Tryd.func33, Tryd.ntmps33
  go_wp2_with fail
  refine HN.out.mono ?_; rintro e w1 (⟨s1, hs, rfl, hW⟩ | ⟨hs, rfl, hB⟩)
  · have HS := Lib.hid hs; have HW := Lib.hid hW
    clear hs hW
    go_wp2_with fail
    go_end0
    exact .inl ⟨s1, HS.out, rfl, HW.out⟩
  · have HS := Lib.hid hs
    clear hs
    go_wp2_with fail
    exact ⟨rfl, .inr ⟨HS.out, rfl, hB⟩⟩

set_option maxRecDepth 100000 in
set_option maxHeartbeats 4000000 in
theorem field_99 (w0 w : World) (s : WS) (hr : room s ≤ 800000) (h : IsW w0 w s) :
    Calls Tryd.prog 33 #[.pointer (some ⟨w0.heap.size, 0, none⟩), .int .u8 99] w (WOut w0 (wCounted wShort s)) := by
  have HN := Lib.hid (counted_short w0 w s wShort (fun W s hr h => short_any w0 W s (by omega) h) (fun _ _ h => short_room h) hr h)
  obtain ⟨R, hR⟩ : ∃ R, R = wCounted wShort s := ⟨_, rfl⟩
  rw [← hR] at HN ⊢
  clear hR h hr
  go_enter Tryd.func33, Tryd.ntmps33
  go_wp2_with fail
  refine HN.out.mono ?_; rintro e w1 (⟨s1, hs, rfl, hW⟩ | ⟨hs, rfl, hB⟩)
  · have HS := Lib.hid hs; have HW := Lib.hid hW
    clear hs hW
    go_wp2_with fail
    go_end0
    exact .inl ⟨s1, HS.out, rfl, HW.out⟩
  · have HS := Lib.hid hs
    clear hs
    go_wp2_with fail
    exact ⟨rfl, .inr ⟨HS.out, rfl, hB⟩⟩

set_option maxRecDepth 100000 in
set_option maxHeartbeats 4000000 in
theorem field_108 (w0 w : World) (s : WS) (hr : room s ≤ 800000) (h : IsW w0 w s) :
    Calls Tryd.prog 33 #[.pointer (some ⟨w0.heap.size, 0, none⟩), .int .u8 108] w (WOut w0 (wCounted wLong s)) := by
  have HN := Lib.hid (counted_long w0 w s wLong (fun W s hr h => long_any w0 W s (by omega) h) (fun _ _ h => long_room h) hr h)
  obtain ⟨R, hR⟩ : ∃ R, R = wCounted wLong s := ⟨_, rfl⟩
  rw [← hR] at HN ⊢
  clear hR h hr
  go_enter Tryd.func33, Tryd.ntmps33
  go_wp2_with fail
  refine HN.out.mono ?_; rintro e w1 (⟨s1, hs, rfl, hW⟩ | ⟨hs, rfl, hB⟩)
  · have HS := Lib.hid hs; have HW := Lib.hid hW
    clear hs hW
    go_wp2_with fail
    go_end0
    exact .inl ⟨s1, HS.out, rfl, HW.out⟩
  · have HS := Lib.hid hs
    clear hs
    go_wp2_with fail
    exact ⟨rfl, .inr ⟨HS.out, rfl, hB⟩⟩

set_option maxRecDepth 100000 in
set_option maxHeartbeats 4000000 in
theorem field_118 (w0 w : World) (s : WS) (hr : room s ≤ 800000) (h : IsW w0 w s) :
    Calls Tryd.prog 33 #[.pointer (some ⟨w0.heap.size, 0, none⟩), .int .u8 118] w (WOut w0 (wCounted wValue s)) := by
  have HN := Lib.hid (counted_value w0 w s wValue (fun W s hr h => value_any w0 W s hr h) (fun _ _ h => value_room h) hr h)
  obtain ⟨R, hR⟩ : ∃ R, R = wCounted wValue s := ⟨_, rfl⟩
  rw [← hR] at HN ⊢
  clear hR h hr
  go_enter Tryd.func33, Tryd.ntmps33
  go_wp2_with fail
  refine HN.out.mono ?_; rintro e w1 (⟨s1, hs, rfl, hW⟩ | ⟨hs, rfl, hB⟩)
  · have HS := Lib.hid hs; have HW := Lib.hid hW
    clear hs hW
    go_wp2_with fail
    go_end0
    exact .inl ⟨s1, HS.out, rfl, HW.out⟩
  · have HS := Lib.hid hs
    clear hs
    go_wp2_with fail
    exact ⟨rfl, .inr ⟨HS.out, rfl, hB⟩⟩

set_option maxRecDepth 100000 in
set_option maxHeartbeats 4000000 in
theorem field_109 (w0 w : World) (s : WS) (hr : room s ≤ 800000) (h : IsW w0 w s) :
    Calls Tryd.prog 33 #[.pointer (some ⟨w0.heap.size, 0, none⟩), .int .u8 109] w (WOut w0 (wCounted wName s)) := by
  have HN := Lib.hid (counted_name w0 w s wName (fun W s hr h => name_any w0 W s hr h) (fun _ _ h => name_room h) hr h)
  obtain ⟨R, hR⟩ : ∃ R, R = wCounted wName s := ⟨_, rfl⟩
  rw [← hR] at HN ⊢
  clear hR h hr
  go_enter Tryd.func33, Tryd.ntmps33
  go_wp2_with fail
  refine HN.out.mono ?_; rintro e w1 (⟨s1, hs, rfl, hW⟩ | ⟨hs, rfl, hB⟩)
  · have HS := Lib.hid hs; have HW := Lib.hid hW
    clear hs hW
    go_wp2_with fail
    go_end0
    exact .inl ⟨s1, HS.out, rfl, HW.out⟩
  · have HS := Lib.hid hs
    clear hs
    go_wp2_with fail
    exact ⟨rfl, .inr ⟨HS.out, rfl, hB⟩⟩

set_option maxRecDepth 100000 in
set_option maxHeartbeats 8000000 in
theorem field_any (w0 w : World) (s : WS) (c : UInt8) (hr : room s ≤ 800000) (h : IsW w0 w s) :
    Calls Tryd.prog 33 #[.pointer (some ⟨w0.heap.size, 0, none⟩), .int .u8 (c.toNat : Nat)] w (WOut w0 (wField c s)) := by
  have hne : ∀ k : UInt8, ¬ c = k → ((c.toNat : Int) == (k.toNat : Nat)) = false := by
    intro k hk
    cases hb : ((c.toNat : Int) == (k.toNat : Nat)) with
    | false => rfl
    | true => exact absurd (UInt8.toNat_inj.mp (Int.ofNat.inj (eq_of_beq hb))) hk
  by_cases h115 : c = 115
  · subst h115
    exact field_115 w0 w s hr h
  by_cases h98 : c = 98
  · subst h98
    exact field_98 w0 w s hr h
  by_cases h105 : c = 105
  · subst h105
    exact field_105 w0 w s hr h
  by_cases h112 : c = 112
  · subst h112
    exact field_112 w0 w s hr h
  by_cases h102 : c = 102
  · subst h102
    exact field_102 w0 w s hr h
  by_cases h99 : c = 99
  · subst h99
    exact field_99 w0 w s hr h
  by_cases h108 : c = 108
  · subst h108
    exact field_108 w0 w s hr h
  by_cases h118 : c = 118
  · subst h118
    exact field_118 w0 w s hr h
  by_cases h109 : c = 109
  · subst h109
    exact field_109 w0 w s hr h
  have HE := Lib.hid (show wField c s = some s by unfold wField; rw [if_neg h115, if_neg h98, if_neg h105, if_neg h112, if_neg h102, if_neg h99, if_neg h108, if_neg h118, if_neg h109])
  have b115 : ((c.toNat : Int) == 115) = false := hne 115 h115
  have b98 : ((c.toNat : Int) == 98) = false := hne 98 h98
  have b105 : ((c.toNat : Int) == 105) = false := hne 105 h105
  have b112 : ((c.toNat : Int) == 112) = false := hne 112 h112
  have b102 : ((c.toNat : Int) == 102) = false := hne 102 h102
  have b99 : ((c.toNat : Int) == 99) = false := hne 99 h99
  have b108 : ((c.toNat : Int) == 108) = false := hne 108 h108
  have b118 : ((c.toNat : Int) == 118) = false := hne 118 h118
  have b109 : ((c.toNat : Int) == 109) = false := hne 109 h109
  generalize (c.toNat : Int) = x at *
  clear hne hr
  go_enter Tryd.func33, Tryd.ntmps33
  go_wp2_with fail
  go_end0
  exact .inl ⟨s, HE.out, rfl, h⟩

end Go.Proofs.YtfdffiphlpeegaaDoor
