/- Contracts and mathematics: MKind, MLay, MDone. -/
import Derived.Test.YtfdffiphlpeegaaDoorZ4
import Derived.Lib.SlBytesRow
import Derived.Lib.BufferRead
namespace Go.Proofs.YtfdffiphlpeegaaDoor
open Go.RowKit Go.Lib Go.WideShapes

set_option maxRecDepth 100000 in
set_option maxHeartbeats 4000000 in
theorem field_115 (w0 w : World) (s : WS) (hr : room s ≤ 800000) (h : IsW w0 w s) :
    Calls Tryd.prog 33 #[.pointer (some ⟨w0.heap.size, 0, none⟩), .int .u8 115] w (WOut w0 (wText s)) := by
  have HN := Lib.hid (text_any w0 w s (by omega) h)
  obtain ⟨R, hR⟩ : ∃ R, R = wText s := ⟨_, rfl⟩
  rw [← hR] at HN ⊢
  clear hR h hr
  go_enter Tryd.func33, Tryd.ntmps33
  go_wp2_with fail
  refine HN.out.mono ?_; rintro e w1 (⟨s1, hs, rfl, hW⟩ | ⟨hs, rfl, hB⟩)
  · have HS := Lib.hid hs; have HW := Lib.hid hW
    clear hs hW
    go_wp2_with fail
    go_end0
    exact .inl ⟨s1, HS.out, rfl, HW.out⟩
  · have HS := Lib.hid hs
    clear hs
    go_wp2_with fail
    exact ⟨rfl, .inr ⟨HS.out, rfl, hB⟩⟩

set_option maxRecDepth 100000 in
set_option maxHeartbeats 4000000 in
theorem field_98 (w0 w : World) (s : WS) (hr : room s ≤ 800000) (h : IsW w0 w s) :
    Calls Tryd.prog 33 #[.pointer (some ⟨w0.heap.size, 0, none⟩), .int .u8 98] w (WOut w0 (wByte s)) := by
  have HN := Lib.hid (number_any w0 w s 0 255 1 (by omega) (by omega) (by omega) (Nat.le_trans (room_B s) (by omega)) h)
  obtain ⟨R, hR⟩ : ∃ R, R = wByte s := ⟨_, rfl⟩
  rw [← hR]
  unfold wByte at hR
  generalize hx : wNumber 0 255 1 s = r at HN hR
  have HR := Lib.hid hR
  clear hx hR h hr
  go_enter Tryd.func33, Tryd.ntmps33
  go_wp2_with fail
  refine HN.out.mono ?_; rintro e w1 (⟨k, s1, rfl, rfl, hW⟩ | ⟨rfl, rfl, hB⟩)
  · have HW := Lib.hid hW
    clear hW
    go_wp2_with fail
    go_end0
    exact .inl ⟨s1, HR.out, rfl, HW.out⟩
  · go_wp2_with fail
    exact ⟨rfl, .inr ⟨HR.out, rfl, hB⟩⟩

set_option maxRecDepth 100000 in
set_option maxHeartbeats 4000000 in
theorem field_105 (w0 w : World) (s : WS) (hr : room s ≤ 800000) (h : IsW w0 w s) :
    Calls Tryd.prog 33 #[.pointer (some ⟨w0.heap.size, 0, none⟩), .int .u8 105] w (WOut w0 (wLong s)) := by
  have HN := Lib.hid (long_any w0 w s (by omega) h)
  obtain ⟨R, hR⟩ : ∃ R, R = wLong s := ⟨_, rfl⟩
  rw [← hR] at HN ⊢
  clear hR h hr
  go_enter Tryd.func33, Tryd.ntmps33
  go_wp2_with fail
  refine HN.out.mono ?_; rintro e w1 (⟨s1, hs, rfl, hW⟩ | ⟨hs, rfl, hB⟩)
  · have HS := Lib.hid hs; have HW := Lib.hid hW
    clear hs hW
    go_wp2_with fail
    go_end0
    exact .inl ⟨s1, HS.out, rfl, HW.out⟩
  · have HS := Lib.hid hs
    clear hs
    go_wp2_with fail
    exact ⟨rfl, .inr ⟨HS.out, rfl, hB⟩⟩

set_option maxRecDepth 100000 in
set_option maxHeartbeats 4000000 in
theorem field_112 (w0 w : World) (s : WS) (hr : room s ≤ 800000) (h : IsW w0 w s) :
    Calls Tryd.prog 33 #[.pointer (some ⟨w0.heap.size, 0, none⟩), .int .u8 112] w (WOut w0 (wPairs s)) := by
  have HN := Lib.hid (pairs_any w0 w s hr h)
  obtain ⟨R, hR⟩ : ∃ R, R = wPairs s := ⟨_, rfl⟩
  rw [← hR] at HN ⊢
  clear hR h hr
  go_enter Tryd.func33, Tryd.ntmps33
  go_wp2_with fail
  refine HN.out.mono ?_; rintro e w1 (⟨s1, hs, rfl, hW⟩ | ⟨hs, rfl, hB⟩)
  · have HS := Lib.hid hs; have HW := Lib.hid hW
    clear hs hW
    go_wp2_with fail
    go_end0
    exact .inl ⟨s1, HS.out, rfl, HW.out⟩
  · have HS := Lib.hid hs
    clear hs
    go_wp2_with fail
    exact ⟨rfl, .inr ⟨HS.out, rfl, hB⟩⟩

set_option maxRecDepth 100000 in
set_option maxHeartbeats 4000000 in
theorem field_102 (w0 w : World) (s : WS) (hr : room s ≤ 800000) (h : IsW w0 w s) :
    Calls Tryd.prog 33 #[.pointer (some ⟨w0.heap.size, 0, none⟩), .int .u8 102] w (WOut w0 (wFields s)) := by
  have HN := Lib.hid (fields_any w0 w s hr h)
  obtain ⟨R, hR⟩ : ∃ R, R = wFields s := ⟨_, rfl⟩
  rw [← hR] at HN ⊢
  clear hR h hr
  go_enter Tryd.func33, Tryd.ntmps33
  go_wp2_with fail
  refine HN.out.mono ?_; rintro e w1 (⟨s1, hs, rfl, hW⟩ | ⟨hs, rfl, hB⟩)
  · have HS := Lib.hid hs; have HW := Lib.hid hW
    clear hs hW
    go_wp2_with fail
    go_end0
    exact .inl ⟨s1, HS.out, rfl, HW.out⟩
  · have HS := Lib.hid hs
    clear hs
    go_wp2_with fail
    exact ⟨rfl, .inr ⟨HS.out, rfl, hB⟩⟩

set_option maxRecDepth 100000 in
set_option maxHeartbeats 4000000 in
theorem field_99 (w0 w : World) (s : WS) (hr : room s ≤ 800000) (h : IsW w0 w s) :
    Calls Tryd.prog 33 #[.pointer (some ⟨w0.heap.size, 0, none⟩), .int .u8 99] w (WOut w0 (wCounted wShort s)) := by
  have HN := Lib.hid (counted_short w0 w s wShort (fun W s hr h => short_any w0 W s (by omega) h) (fun _ _ h => short_room h) hr h)
  obtain ⟨R, hR⟩ : ∃ R, R = wCounted wShort s := ⟨_, rfl⟩
  rw [← hR] at HN ⊢
  clear hR h hr
  go_enter Tryd.func33, Tryd.ntmps33
  go_wp2_with fail
  refine HN.out.mono ?_; rintro e w1 (⟨s1, hs, rfl, hW⟩ | ⟨hs, rfl, hB⟩)
  · have HS := Lib.hid hs; have HW := Lib.hid hW
    clear hs hW
    go_wp2_with fail
    go_end0
    exact .inl ⟨s1, HS.out, rfl, HW.out⟩
  · have HS := Lib.hid hs
    clear hs
    go_wp2_with fail
    exact ⟨rfl, .inr ⟨HS.out, rfl, hB⟩⟩

set_option maxRecDepth 100000 in
set_option maxHeartbeats 4000000 in
theorem field_108 (w0 w : World) (s : WS) (hr : room s ≤ 800000) (h : IsW w0 w s) :
    Calls Tryd.prog 33 #[.pointer (some ⟨w0.heap.size, 0, none⟩), .int .u8 108] w (WOut w0 (wCounted wLong s)) := by
  have HN := Lib.hid (counted_long w0 w s wLong (fun W s hr h => long_any w0 W s (by omega) h) (fun _ _ h => long_room h) hr h)
  obtain ⟨R, hR⟩ : ∃ R, R = wCounted wLong s := ⟨_, rfl⟩
  rw [← hR] at HN ⊢
  clear hR h hr
  go_enter Tryd.func33, Tryd.ntmps33
  go_wp2_with fail
  refine HN.out.mono ?_; rintro e w1 (⟨s1, hs, rfl, hW⟩ | ⟨hs, rfl, hB⟩)
  · have HS := Lib.hid hs; have HW := Lib.hid hW
    clear hs hW
    go_wp2_with fail
    go_end0
    exact .inl ⟨s1, HS.out, rfl, HW.out⟩
  · have HS := Lib.hid hs
    clear hs
    go_wp2_with fail
    exact ⟨rfl, .inr ⟨HS.out, rfl, hB⟩⟩

set_option maxRecDepth 100000 in
set_option maxHeartbeats 4000000 in
theorem field_118 (w0 w : World) (s : WS) (hr : room s ≤ 800000) (h : IsW w0 w s) :
    Calls Tryd.prog 33 #[.pointer (some ⟨w0.heap.size, 0, none⟩), .int .u8 118] w (WOut w0 (wCounted wValue s)) := by
  have HN := Lib.hid (counted_value w0 w s wValue (fun W s hr h => value_any w0 W s hr h) (fun _ _ h => value_room h) hr h)
  obtain ⟨R, hR⟩ : ∃ R, R = wCounted wValue s := ⟨_, rfl⟩
  rw [← hR] at HN ⊢
  clear hR h hr
  go_enter Tryd.func33, Tryd.ntmps33
  go_wp2_with fail
  refine HN.out.mono ?_; rintro e w1 (⟨s1, hs, rfl, hW⟩ | ⟨hs, rfl, hB⟩)
  · have HS := Lib.hid hs; have HW := Lib.hid hW
    clear hs hW
    go_wp2_with fail
    go_end0
    exact .inl ⟨s1, HS.out, rfl, HW.out⟩
  · have HS := Lib.hid hs
    clear hs
    go_wp2_with fail
    exact ⟨rfl, .inr ⟨HS.out, rfl, hB⟩⟩

set_option maxRecDepth 100000 in
set_option maxHeartbeats 4000000 in
theorem field_109 (w0 w : World) (s : WS) (hr : room s ≤ 800000) (h : IsW w0 w s) :
    Calls Tryd.prog 33 #[.pointer (some ⟨w0.heap.size, 0, none⟩), .int .u8 109] w (WOut w0 (wCounted wName s)) := by
  have HN := Lib.hid (counted_name w0 w s wName (fun W s hr h => name_any w0 W s hr h) (fun _ _ h => name_room h) hr h)
  obtain ⟨R, hR⟩ : ∃ R, R = wCounted wName s := ⟨_, rfl⟩
  rw [← hR] at HN ⊢
  clear hR h hr
  go_enter Tryd.func33, Tryd.ntmps33
  go_wp2_with fail
  refine HN.out.mono ?_; rintro e w1 (⟨s1, hs, rfl, hW⟩ | ⟨hs, rfl, hB⟩)
  · have HS := Lib.hid hs; have HW := Lib.hid hW
    clear hs hW
    go_wp2_with fail
    go_end0
    exact .inl ⟨s1, HS.out, rfl, HW.out⟩
  · have HS := Lib.hid hs
    clear hs
    go_wp2_with fail
    exact ⟨rfl, .inr ⟨HS.out, rfl, hB⟩⟩

set_option maxRecDepth 100000 in
set_option maxHeartbeats 8000000 in
theorem field_any (w0 w : World) (s : WS) (c : UInt8) (hr : room s ≤ 800000) (h : IsW w0 w s) :
    Calls Tryd.prog 33 #[.pointer (some ⟨w0.heap.size, 0, none⟩), .int .u8 (c.toNat : Nat)] w (WOut w0 (wField c s)) := by
  have hne : ∀ k : UInt8, ¬ c = k → ((c.toNat : Int) == (k.toNat : Nat)) = false := by
    intro k hk
    cases hb : ((c.toNat : Int) == (k.toNat : Nat)) with
    | false => rfl
    | true => exact absurd (UInt8.toNat_inj.mp (Int.ofNat.inj (eq_of_beq hb))) hk
  by_cases h115 : c = 115
  · subst h115
    exact field_115 w0 w s hr h
  by_cases h98 : c = 98
  · subst h98
    exact field_98 w0 w s hr h
  by_cases h105 : c = 105
  · subst h105
    exact field_105 w0 w s hr h
  by_cases h112 : c = 112
  · subst h112
    exact field_112 w0 w s hr h
  by_cases h102 : c = 102
  · subst h102
    exact field_102 w0 w s hr h
  by_cases h99 : c = 99
  · subst h99
    exact field_99 w0 w s hr h
  by_cases h108 : c = 108
  · subst h108
    exact field_108 w0 w s hr h
  by_cases h118 : c = 118
  · subst h118
    exact field_118 w0 w s hr h
  by_cases h109 : c = 109
  · subst h109
    exact field_109 w0 w s hr h
  have HE := Lib.hid (show wField c s = some s by unfold wField; rw [if_neg h115, if_neg h98, if_neg h105, if_neg h112, if_neg h102, if_neg h99, if_neg h108, if_neg h118, if_neg h109])
  have b115 : ((c.toNat : Int) == 115) = false := hne 115 h115
  have b98 : ((c.toNat : Int) == 98) = false := hne 98 h98
  have b105 : ((c.toNat : Int) == 105) = false := hne 105 h105
  have b112 : ((c.toNat : Int) == 112) = false := hne 112 h112
  have b102 : ((c.toNat : Int) == 102) = false := hne 102 h102
  have b99 : ((c.toNat : Int) == 99) = false := hne 99 h99
  have b108 : ((c.toNat : Int) == 108) = false := hne 108 h108
  have b118 : ((c.toNat : Int) == 118) = false := hne 118 h118
  have b109 : ((c.toNat : Int) == 109) = false := hne 109 h109
  generalize (c.toNat : Int) = x at *
  clear hne hr
  go_enter Tryd.func33, Tryd.ntmps33
  go_wp2_with fail
  go_end0
  exact .inl ⟨s, HE.out, rfl, h⟩

end Go.Proofs.YtfdffiphlpeegaaDoor

namespace Go.Proofs.YtfdffiphlpeegaaDoor
open Go.RowKit Go.Lib Go.WideShapes

def layS (c : UInt8) : Option Bs :=
  if c = 82 then some [105]
  else if c = 83 then some [115, 115]
  else if c = 75 then some [105, 105]
  else if c = 90 then some [98]
  else if c = 67 then some [115]
  else if c = 69 then some [102]
  else if c = 78 then some [102]
  else if c = 84 then some [109]
  else if c = 68 then some [118]
  else if c = 73 then some []
  else if c = 49 then some []
  else if c = 50 then some []
  else if c = 51 then some []
  else if c = 110 then some []
  else if c = 115 then some []
  else none
def layC (c : UInt8) : Option Bs :=
  if c = 0 then some [105, 112]
  else if c = 81 then some [115]
  else if c = 112 then some [115]
  else if c = 88 then some []
  else if c = 83 then some []
  else if c = 72 then some []
  else if c = 80 then some [115, 115, 108]
  else if c = 66 then some [115, 115, 99, 118, 99]
  else if c = 69 then some [115, 105]
  else if c = 68 then some [98, 115]
  else if c = 67 then some [98, 115]
  else none
def lay (back : Bool) (c : UInt8) : Option Bs := if back then layS c else layC c
def layV (r : Option Bs) : Value := .tuple #[.string ⟨(r.getD []).toArray⟩, .bool r.isSome]

set_option maxRecDepth 100000 in
set_option maxHeartbeats 8000000 in
theorem layS_any (w : World) (c : UInt8) :
    Calls Tryd.prog 34 #[.int .u8 (c.toNat : Nat)] w fun e w' => e = .returned (layV (layS c)) ∧ w = w' := by
  have hne : ∀ k : UInt8, ¬ c = k → ((c.toNat : Int) == (k.toNat : Nat)) = false := by
    intro k hk
    cases hb : ((c.toNat : Int) == (k.toNat : Nat)) with
    | false => rfl
    | true => exact absurd (UInt8.toNat_inj.mp (Int.ofNat.inj (eq_of_beq hb))) hk
  by_cases h82 : c = 82
  · subst h82
    show Calls Tryd.prog 34 #[.int .u8 82] w fun e w' => e = .returned (.tuple #[.string ⟨#[105]⟩, .bool true]) ∧ w = w'
    clear hne
    go_enter Tryd.func34, Tryd.ntmps34
    go_wp2_with fail
    simp [bodyPost, results, Tryd.results34, go_sem]
  by_cases h83 : c = 83
  · subst h83
    show Calls Tryd.prog 34 #[.int .u8 83] w fun e w' => e = .returned (.tuple #[.string ⟨#[115, 115]⟩, .bool true]) ∧ w = w'
    clear hne
    go_enter Tryd.func34, Tryd.ntmps34
    go_wp2_with fail
    simp [bodyPost, results, Tryd.results34, go_sem]
  by_cases h75 : c = 75
  · subst h75
    show Calls Tryd.prog 34 #[.int .u8 75] w fun e w' => e = .returned (.tuple #[.string ⟨#[105, 105]⟩, .bool true]) ∧ w = w'
    clear hne
    go_enter Tryd.func34, Tryd.ntmps34
    go_wp2_with fail
    simp [bodyPost, results, Tryd.results34, go_sem]
  by_cases h90 : c = 90
  · subst h90
    show Calls Tryd.prog 34 #[.int .u8 90] w fun e w' => e = .returned (.tuple #[.string ⟨#[98]⟩, .bool true]) ∧ w = w'
    clear hne
    go_enter Tryd.func34, Tryd.ntmps34
    go_wp2_with fail
    simp [bodyPost, results, Tryd.results34, go_sem]
  by_cases h67 : c = 67
  · subst h67
    show Calls Tryd.prog 34 #[.int .u8 67] w fun e w' => e = .returned (.tuple #[.string ⟨#[115]⟩, .bool true]) ∧ w = w'
    clear hne
    go_enter Tryd.func34, Tryd.ntmps34
    go_wp2_with fail
    simp [bodyPost, results, Tryd.results34, go_sem]
  by_cases h69 : c = 69
  · subst h69
    show Calls Tryd.prog 34 #[.int .u8 69] w fun e w' => e = .returned (.tuple #[.string ⟨#[102]⟩, .bool true]) ∧ w = w'
    clear hne
    go_enter Tryd.func34, Tryd.ntmps34
    go_wp2_with fail
    simp [bodyPost, results, Tryd.results34, go_sem]
  by_cases h78 : c = 78
  · subst h78
    show Calls Tryd.prog 34 #[.int .u8 78] w fun e w' => e = .returned (.tuple #[.string ⟨#[102]⟩, .bool true]) ∧ w = w'
    clear hne
    go_enter Tryd.func34, Tryd.ntmps34
    go_wp2_with fail
    simp [bodyPost, results, Tryd.results34, go_sem]
  by_cases h84 : c = 84
  · subst h84
    show Calls Tryd.prog 34 #[.int .u8 84] w fun e w' => e = .returned (.tuple #[.string ⟨#[109]⟩, .bool true]) ∧ w = w'
    clear hne
    go_enter Tryd.func34, Tryd.ntmps34
    go_wp2_with fail
    simp [bodyPost, results, Tryd.results34, go_sem]
  by_cases h68 : c = 68
  · subst h68
    show Calls Tryd.prog 34 #[.int .u8 68] w fun e w' => e = .returned (.tuple #[.string ⟨#[118]⟩, .bool true]) ∧ w = w'
    clear hne
    go_enter Tryd.func34, Tryd.ntmps34
    go_wp2_with fail
    simp [bodyPost, results, Tryd.results34, go_sem]
  by_cases h73 : c = 73
  · subst h73
    show Calls Tryd.prog 34 #[.int .u8 73] w fun e w' => e = .returned (.tuple #[.string ⟨#[]⟩, .bool true]) ∧ w = w'
    clear hne
    go_enter Tryd.func34, Tryd.ntmps34
    go_wp2_with fail
    simp [bodyPost, results, Tryd.results34, go_sem]
  by_cases h49 : c = 49
  · subst h49
    show Calls Tryd.prog 34 #[.int .u8 49] w fun e w' => e = .returned (.tuple #[.string ⟨#[]⟩, .bool true]) ∧ w = w'
    clear hne
    go_enter Tryd.func34, Tryd.ntmps34
    go_wp2_with fail
    simp [bodyPost, results, Tryd.results34, go_sem]
  by_cases h50 : c = 50
  · subst h50
    show Calls Tryd.prog 34 #[.int .u8 50] w fun e w' => e = .returned (.tuple #[.string ⟨#[]⟩, .bool true]) ∧ w = w'
    clear hne
    go_enter Tryd.func34, Tryd.ntmps34
    go_wp2_with fail
    simp [bodyPost, results, Tryd.results34, go_sem]
  by_cases h51 : c = 51
  · subst h51
    show Calls Tryd.prog 34 #[.int .u8 51] w fun e w' => e = .returned (.tuple #[.string ⟨#[]⟩, .bool true]) ∧ w = w'
    clear hne
    go_enter Tryd.func34, Tryd.ntmps34
    go_wp2_with fail
    simp [bodyPost, results, Tryd.results34, go_sem]
  by_cases h110 : c = 110
  · subst h110
    show Calls Tryd.prog 34 #[.int .u8 110] w fun e w' => e = .returned (.tuple #[.string ⟨#[]⟩, .bool true]) ∧ w = w'
    clear hne
    go_enter Tryd.func34, Tryd.ntmps34
    go_wp2_with fail
    simp [bodyPost, results, Tryd.results34, go_sem]
  by_cases h115 : c = 115
  · subst h115
    show Calls Tryd.prog 34 #[.int .u8 115] w fun e w' => e = .returned (.tuple #[.string ⟨#[]⟩, .bool true]) ∧ w = w'
    clear hne
    go_enter Tryd.func34, Tryd.ntmps34
    go_wp2_with fail
    simp [bodyPost, results, Tryd.results34, go_sem]
  have HE := Lib.hid (show layS c = none by unfold layS; rw [if_neg h82, if_neg h83, if_neg h75, if_neg h90, if_neg h67, if_neg h69, if_neg h78, if_neg h84, if_neg h68, if_neg h73, if_neg h49, if_neg h50, if_neg h51, if_neg h110, if_neg h115])
  rw [HE.out]
  have b82 : ((c.toNat : Int) == 82) = false := hne 82 h82
  have b83 : ((c.toNat : Int) == 83) = false := hne 83 h83
  have b75 : ((c.toNat : Int) == 75) = false := hne 75 h75
  have b90 : ((c.toNat : Int) == 90) = false := hne 90 h90
  have b67 : ((c.toNat : Int) == 67) = false := hne 67 h67
  have b69 : ((c.toNat : Int) == 69) = false := hne 69 h69
  have b78 : ((c.toNat : Int) == 78) = false := hne 78 h78
  have b84 : ((c.toNat : Int) == 84) = false := hne 84 h84
  have b68 : ((c.toNat : Int) == 68) = false := hne 68 h68
  have b73 : ((c.toNat : Int) == 73) = false := hne 73 h73
  have b49 : ((c.toNat : Int) == 49) = false := hne 49 h49
  have b50 : ((c.toNat : Int) == 50) = false := hne 50 h50
  have b51 : ((c.toNat : Int) == 51) = false := hne 51 h51
  have b110 : ((c.toNat : Int) == 110) = false := hne 110 h110
  have b115 : ((c.toNat : Int) == 115) = false := hne 115 h115
  generalize (c.toNat : Int) = x at *
  clear hne HE
  go_enter Tryd.func34, Tryd.ntmps34
  go_wp2_with fail
  simp [bodyPost, results, Tryd.results34, go_sem, layV]

set_option maxRecDepth 100000 in
set_option maxHeartbeats 8000000 in
theorem layC_any (w : World) (c : UInt8) :
    Calls Tryd.prog 35 #[.int .u8 (c.toNat : Nat)] w fun e w' => e = .returned (layV (layC c)) ∧ w = w' := by
  have hne : ∀ k : UInt8, ¬ c = k → ((c.toNat : Int) == (k.toNat : Nat)) = false := by
    intro k hk
    cases hb : ((c.toNat : Int) == (k.toNat : Nat)) with
    | false => rfl
    | true => exact absurd (UInt8.toNat_inj.mp (Int.ofNat.inj (eq_of_beq hb))) hk
  by_cases h0 : c = 0
  · subst h0
    show Calls Tryd.prog 35 #[.int .u8 0] w fun e w' => e = .returned (.tuple #[.string ⟨#[105, 112]⟩, .bool true]) ∧ w = w'
    clear hne
    go_enter Tryd.func35, Tryd.ntmps35
    go_wp2_with fail
    simp [bodyPost, results, Tryd.results35, go_sem]
  by_cases h81 : c = 81
  · subst h81
    show Calls Tryd.prog 35 #[.int .u8 81] w fun e w' => e = .returned (.tuple #[.string ⟨#[115]⟩, .bool true]) ∧ w = w'
    clear hne
    go_enter Tryd.func35, Tryd.ntmps35
    go_wp2_with fail
    simp [bodyPost, results, Tryd.results35, go_sem]
  by_cases h112 : c = 112
  · subst h112
    show Calls Tryd.prog 35 #[.int .u8 112] w fun e w' => e = .returned (.tuple #[.string ⟨#[115]⟩, .bool true]) ∧ w = w'
    clear hne
    go_enter Tryd.func35, Tryd.ntmps35
    go_wp2_with fail
    simp [bodyPost, results, Tryd.results35, go_sem]
  by_cases h88 : c = 88
  · subst h88
    show Calls Tryd.prog 35 #[.int .u8 88] w fun e w' => e = .returned (.tuple #[.string ⟨#[]⟩, .bool true]) ∧ w = w'
    clear hne
    go_enter Tryd.func35, Tryd.ntmps35
    go_wp2_with fail
    simp [bodyPost, results, Tryd.results35, go_sem]
  by_cases h83 : c = 83
  · subst h83
    show Calls Tryd.prog 35 #[.int .u8 83] w fun e w' => e = .returned (.tuple #[.string ⟨#[]⟩, .bool true]) ∧ w = w'
    clear hne
    go_enter Tryd.func35, Tryd.ntmps35
    go_wp2_with fail
    simp [bodyPost, results, Tryd.results35, go_sem]
  by_cases h72 : c = 72
  · subst h72
    show Calls Tryd.prog 35 #[.int .u8 72] w fun e w' => e = .returned (.tuple #[.string ⟨#[]⟩, .bool true]) ∧ w = w'
    clear hne
    go_enter Tryd.func35, Tryd.ntmps35
    go_wp2_with fail
    simp [bodyPost, results, Tryd.results35, go_sem]
  by_cases h80 : c = 80
  · subst h80
    show Calls Tryd.prog 35 #[.int .u8 80] w fun e w' => e = .returned (.tuple #[.string ⟨#[115, 115, 108]⟩, .bool true]) ∧ w = w'
    clear hne
    go_enter Tryd.func35, Tryd.ntmps35
    go_wp2_with fail
    simp [bodyPost, results, Tryd.results35, go_sem]
  by_cases h66 : c = 66
  · subst h66
    show Calls Tryd.prog 35 #[.int .u8 66] w fun e w' => e = .returned (.tuple #[.string ⟨#[115, 115, 99, 118, 99]⟩, .bool true]) ∧ w = w'
    clear hne
    go_enter Tryd.func35, Tryd.ntmps35
    go_wp2_with fail
    simp [bodyPost, results, Tryd.results35, go_sem]
  by_cases h69 : c = 69
  · subst h69
    show Calls Tryd.prog 35 #[.int .u8 69] w fun e w' => e = .returned (.tuple #[.string ⟨#[115, 105]⟩, .bool true]) ∧ w = w'
    clear hne
    go_enter Tryd.func35, Tryd.ntmps35
    go_wp2_with fail
    simp [bodyPost, results, Tryd.results35, go_sem]
  by_cases h68 : c = 68
  · subst h68
    show Calls Tryd.prog 35 #[.int .u8 68] w fun e w' => e = .returned (.tuple #[.string ⟨#[98, 115]⟩, .bool true]) ∧ w = w'
    clear hne
    go_enter Tryd.func35, Tryd.ntmps35
    go_wp2_with fail
    simp [bodyPost, results, Tryd.results35, go_sem]
  by_cases h67 : c = 67
  · subst h67
    show Calls Tryd.prog 35 #[.int .u8 67] w fun e w' => e = .returned (.tuple #[.string ⟨#[98, 115]⟩, .bool true]) ∧ w = w'
    clear hne
    go_enter Tryd.func35, Tryd.ntmps35
    go_wp2_with fail
    simp [bodyPost, results, Tryd.results35, go_sem]
  have HE := Lib.hid (show layC c = none by unfold layC; rw [if_neg h0, if_neg h81, if_neg h112, if_neg h88, if_neg h83, if_neg h72, if_neg h80, if_neg h66, if_neg h69, if_neg h68, if_neg h67])
  rw [HE.out]
  have b0 : ((c.toNat : Int) == 0) = false := hne 0 h0
  have b81 : ((c.toNat : Int) == 81) = false := hne 81 h81
  have b112 : ((c.toNat : Int) == 112) = false := hne 112 h112
  have b88 : ((c.toNat : Int) == 88) = false := hne 88 h88
  have b83 : ((c.toNat : Int) == 83) = false := hne 83 h83
  have b72 : ((c.toNat : Int) == 72) = false := hne 72 h72
  have b80 : ((c.toNat : Int) == 80) = false := hne 80 h80
  have b66 : ((c.toNat : Int) == 66) = false := hne 66 h66
  have b69 : ((c.toNat : Int) == 69) = false := hne 69 h69
  have b68 : ((c.toNat : Int) == 68) = false := hne 68 h68
  have b67 : ((c.toNat : Int) == 67) = false := hne 67 h67
  generalize (c.toNat : Int) = x at *
  clear hne HE
  go_enter Tryd.func35, Tryd.ntmps35
  go_wp2_with fail
  simp [bodyPost, results, Tryd.results35, go_sem, layV]

theorem lay_any (w : World) (back : Bool) (c : UInt8) :
    Calls Tryd.prog 22 #[.bool back, .int .u8 (c.toNat : Nat)] w fun e w' => e = .returned (layV (lay back c)) ∧ w = w' := by
  cases back with
  | true =>
    go_enter Tryd.func22, Tryd.ntmps22
    go_wp2_with fail
    refine (layS_any _ c).mono ?_; rintro e w1 ⟨rfl, rfl⟩
    unfold layV
    go_wp2_with fail
    simp [bodyPost, results, Tryd.results22, go_sem]
    rfl
  | false =>
    go_enter Tryd.func22, Tryd.ntmps22
    go_wp2_with fail
    refine (layC_any _ c).mono ?_; rintro e w1 ⟨rfl, rfl⟩
    unfold layV
    go_wp2_with fail
    simp [bodyPost, results, Tryd.results22, go_sem]
    rfl

end Go.Proofs.YtfdffiphlpeegaaDoor

namespace Go.Proofs.YtfdffiphlpeegaaDoor
open Go.RowKit Go.Lib Go.WideShapes

theorem rep_room {f : WS → Option WS} (hf : ∀ s s', f s = some s' → room s' ≤ room s) : ∀ (n : Nat) (s s' : WS), rep n f s = some s' → room s' ≤ room s := by
  intro n
  induction n with
  | zero => intro s s' h; rw [rep] at h; obtain rfl := Option.some.inj h; exact Nat.le_refl _
  | succ n ih =>
    intro s s' h
    rw [rep] at h
    cases hs : f s with
    | none => rw [hs] at h; cases h
    | some s1 =>
      rw [hs] at h
      exact Nat.le_trans (ih s1 s' h) (hf s s1 hs)
theorem zero_room (s : WS) : room (wZero s) = room s + 1 := by
  unfold room wZero
  simp only [List.length_append, List.length_cons, List.length_nil]
  omega
theorem pair_room' {s s' : WS} (h : wPair s = some s') : room s' ≤ room s := by
  unfold wPair at h
  split at h
  · cases h
  · split at h
    · cases h
    · have := room_text h; omega
theorem item_room' {s s' : WS} (h : wItem s = some s') : room s' ≤ room s := by
  unfold wItem at h
  cases hN : wNumber 1 255 1 s with
  | none => rw [hN] at h; cases h
  | some p =>
    rw [hN] at h
    have := room_text h
    have := (room_number (n := p.1) (s' := p.2) hN (by omega)).1
    omega
theorem pairs_room {s s' : WS} (h : wPairs s = some s') : room s' ≤ room s := by
  unfold wPairs at h
  cases hN : wNum 0 s.T.length s with
  | none => rw [hN] at h; cases h
  | some p =>
    rw [hN] at h
    have h : (if p.1 % 2 = 0 then (rep p.1.toNat wPair p.2).map wZero else none) = some s' := h
    have h0 := (room_num (n := p.1) (s' := p.2) hN).2.2
    split at h
    · cases hr : rep p.1.toNat wPair p.2 with
      | none => rw [hr] at h; cases h
      | some s2 =>
        rw [hr] at h
        obtain rfl := Option.some.inj h
        have := rep_room (fun s s' => pair_room') _ _ _ hr
        have := zero_room s2
        omega
    · cases h
theorem fields_room {s s' : WS} (h : wFields s = some s') : room s' ≤ room s := by
  unfold wFields at h
  cases hN : wNum 0 s.T.length s with
  | none => rw [hN] at h; cases h
  | some p =>
    rw [hN] at h
    have h : (rep p.1.toNat wItem p.2).map wZero = some s' := h
    have h0 := (room_num (n := p.1) (s' := p.2) hN).2.2
    cases hr : rep p.1.toNat wItem p.2 with
    | none => rw [hr] at h; cases h
    | some s2 =>
      rw [hr] at h
      obtain rfl := Option.some.inj h
      have := rep_room (fun s s' => item_room') _ _ _ hr
      have := zero_room s2
      omega
theorem counted_room {f : WS → Option WS} (hf : ∀ s s', f s = some s' → room s' ≤ room s) {s s' : WS} (h : wCounted f s = some s') : room s' ≤ room s := by
  unfold wCounted at h
  cases hN : wNumber 0 100 2 s with
  | none => rw [hN] at h; cases h
  | some p =>
    rw [hN] at h
    exact Nat.le_trans (rep_room hf _ _ _ h) (room_number (n := p.1) (s' := p.2) hN (by omega)).1
theorem field_room {c : UInt8} {s s' : WS} (h : wField c s = some s') : room s' ≤ room s := by
  unfold wField at h
  split at h; · have := room_text h; omega
  split at h; · exact byte_room h
  split at h; · exact long_room h
  split at h; · exact pairs_room h
  split at h; · exact fields_room h
  split at h; · exact counted_room (fun _ _ => short_room) h
  split at h; · exact counted_room (fun _ _ => long_room) h
  split at h; · exact counted_room (fun _ _ => value_room) h
  split at h; · exact counted_room (fun _ _ => name_room) h
  obtain rfl := Option.some.inj h; exact Nat.le_refl _

theorem wAll_append (a b : Bs) : ∀ s, wAll (a ++ b) s = (wAll a s).bind (wAll b) := by
  induction a with
  | nil => intro s; rfl
  | cons c a ih =>
    intro s
    show (wField c s).bind (wAll (a ++ b)) = ((wField c s).bind (wAll a)).bind (wAll b)
    cases wField c s with
    | none => rfl
    | some s1 => exact ih s1
theorem wAll_next {l : Bs} {j : Nat} {s s1 s2 : WS} (hj : j < l.length) (h : wAll (l.take j) s = some s1) (hf : wField l[j] s1 = some s2) : wAll (l.take (j + 1)) s = some s2 := by
  rw [List.take_succ_eq_append_getElem hj, wAll_append, h]
  show (wField l[j] s1).bind (wAll []) = _
  rw [hf]; rfl
theorem wAll_fail {l : Bs} {j : Nat} {s s1 : WS} (hj : j < l.length) (h : wAll (l.take j) s = some s1) (hf : wField l[j] s1 = none) : wAll l s = none := by
  have e : l = l.take j ++ (l[j] :: l.drop (j + 1)) := by rw [List.getElem_cons_drop, List.take_append_drop]
  rw [e, wAll_append, h]
  show (wField l[j] s1).bind _ = none
  rw [hf]; rfl

theorem TextsIn.mono {w w' : World} {v : Value} {T : List Bs} (h : TextsIn w v T) (hb : Below w.heap.size w w') : TextsIn w' v T := by
  obtain ⟨a, n, c, hv, hl, hn, hc, hr⟩ := h
  refine ⟨a, n, c, hv, hl, hn, hc, hr.imp id ?_⟩
  rintro ⟨g, off, ha, hg, hcell⟩
  exact ⟨g, off, ha, Nat.lt_of_lt_of_le hg hb.size, fun i t ht => (hb.cell (p := ⟨g, off + i, none⟩) hg).trans (hcell i t ht)⟩
theorem NumsIn.mono {w w' : World} {v : Value} {N : List Int} (h : NumsIn w v N) (hb : Below w.heap.size w w') : NumsIn w' v N := by
  obtain ⟨a, n, c, hv, hl, hn, hc, hr⟩ := h
  refine ⟨a, n, c, hv, hl, hn, hc, hr.imp id ?_⟩
  rintro ⟨g, off, ha, hg, hcell⟩
  exact ⟨g, off, ha, Nat.lt_of_lt_of_le hg hb.size, fun i t ht => (hb.cell (p := ⟨g, off + i, none⟩) hg).trans (hcell i t ht)⟩
theorem is_new {w w0 : World} {T : List Bs} {N : List Int} {tv nv : Value} (hT : TextsIn w tv T) (hN : NumsIn w nv N) (hb : Below w.heap.size w w0) :
    IsW w0 (w0.alloc (.cells #[tv, nv, .slice none 0 0] 71)) ⟨T, N, []⟩ := by
  refine ⟨tv, nv, .slice none 0 0, (Below.refl _ _).alloc (Nat.le_refl _) _, by rw [World.size_alloc]; exact Nat.lt_succ_self _, ?_, ?_, ?_, ?_, ?_, ?_, hT.mono hb, hN.mono hb, ⟨rfl, .inl ⟨rfl, rfl⟩⟩⟩ <;> simp [go_sem]
/-- A []byte of the call's own that holds just the bytes of R, turned into a text. -/
theorem conv_owned {P : Program} {w : World} {base : Nat} {v : Value} {src e dst : TypeId} (R : ByteArray) (hs : P.underlying src = some (.slice e)) (he : P.underlying e = some (.int .u8)) (hd : P.underlying dst = some .string)
    (h : w.ownsRow base e 1 v R.size (bcells (bytes R))) : (convert src dst v).run P w = .ok (.string R) w := by
  obtain ⟨hl, h2⟩ := h
  rcases h2 with ⟨rfl, h0⟩ | ⟨g, cap, cur, rfl, hb, hg, hn, hm, hc, ht⟩
  · have hR : R = ByteArray.empty := by
      apply ByteArray.ext; apply Array.toList_inj.1
      have : R.data.toList.length = 0 := by rw [blen]; exact h0
      simpa using List.eq_nil_of_length_eq_zero this
    subst hR
    exact run_convert_nil_bytes w src dst e 0 hs he hd
  · refine run_convert_whole w src e dst hs he hd g 0 R ?_ cap
    intro i hi
    rw [Nat.zero_add, cell_of_row w g i cur e (0, 0) hg]
    have hu : (bcells (bytes R))[i]? = some (.int .u8 (R[i].toNat : Int)) := by
      simp only [bcells, bytes, List.getElem?_map]
      have : R.data.toList[i]? = some R[i] := by
        rw [List.getElem?_eq_getElem (by rw [blen]; exact hi)]; rfl
      rw [this]; rfl
    rw [← ht, List.getElem?_take] at hu
    split at hu
    · simpa using hu
    · cases hu

set_option maxRecDepth 100000 in
/-- A writer's body as a text. -/
theorem own_text {w : World} {base n : Nat} {v : Value} {B : Bs} (h : w.ownsRow base 5 1 v n (bcells B)) (hl : B.length = n) : (convert 69 9 v).run Tryd.prog w = .ok (.string ⟨B.toArray⟩) w := by
  exact conv_owned ⟨B.toArray⟩ rfl rfl rfl (by rw [bsize, hl]; exact h)
end Go.Proofs.YtfdffiphlpeegaaDoor
