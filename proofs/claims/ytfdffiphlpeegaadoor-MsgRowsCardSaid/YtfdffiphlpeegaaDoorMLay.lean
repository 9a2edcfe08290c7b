/- The layouts of messages. -/
import Derived.Test.YtfdffiphlpeegaaDoorMKind
namespace Go.Proofs.YtfdffiphlpeegaaDoor
open Go.RowKit Go.Lib Go.WideShapes

def layS (c : UInt8) : Option Bs :=
  if c = 82 then some [105]
  else if c = 83 then some [115, 115]
  else if c = 75 then some [105, 105]
  else if c = 90 then some [98]
  else if c = 67 then some [115]
  else if c = 69 then some [102]
  else if c = 78 then some [102]
  else if c = 84 then some [109]
  else if c = 68 then some [118]
  else if c = 73 then some []
  else if c = 49 then some []
  else if c = 50 then some []
  else if c = 51 then some []
  else if c = 110 then some []
  else if c = 115 then some []
  else none
def layC (c : UInt8) : Option Bs :=
  if c = 0 then some [105, 112]
  else if c = 81 then some [115]
  else if c = 112 then some [115]
  else if c = 88 then some []
  else if c = 83 then some []
  else if c = 72 then some []
  else if c = 80 then some [115, 115, 108]
  else if c = 66 then some [115, 115, 99, 118, 99]
  else if c = 69 then some [115, 105]
  else if c = 68 then some [98, 115]
  else if c = 67 then some [98, 115]
  else none
def lay (back : Bool) (c : UInt8) : Option Bs := if back then layS c else layC c
def layV (r : Option Bs) : Value := .tuple #[.string ⟨(r.getD []).toArray⟩, .bool r.isSome]

set_option maxRecDepth 100000 in
set_option maxHeartbeats 8000000 in
theorem layS_any (w : World) (c : UInt8) :
    Calls Tryd.prog 34 #[.int .u8 (c.toNat : Nat)] w fun e w' => e = .returned (layV (layS c)) ∧ w = w' := by
  have hne : ∀ k : UInt8, ¬ c = k → ((c.toNat : Int) == (k.toNat : Nat)) = false := by
    intro k hk
    cases hb : ((c.toNat : Int) == (k.toNat : Nat)) with
    | false => rfl
    | true => exact absurd (UInt8.toNat_inj.mp (Int.ofNat.inj (eq_of_beq hb))) hk
  by_cases h82 : c = 82
  · subst h82
    show Calls Tryd.prog 34 #[.int .u8 82] w fun e w' => e = .returned (.tuple #[.string ⟨#[105]⟩, .bool true]) ∧ w = w'
    clear hne
    go_enter Tryd.func34, Tryd.ntmps34
    go_wp2_with fail
    simp [bodyPost, results, Tryd.results34, go_sem]
  by_cases h83 : c = 83
  · subst h83
    show Calls Tryd.prog 34 #[.int .u8 83] w fun e w' => e = .returned (.tuple #[.string ⟨#[115, 115]⟩, .bool true]) ∧ w = w'
    clear hne
    go_enter Tryd.func34, Tryd.ntmps34
    go_wp2_with fail
    simp [bodyPost, results, Tryd.results34, go_sem]
  by_cases h75 : c = 75
  · subst h75
    show Calls Tryd.prog 34 #[.int .u8 75] w fun e w' => e = .returned (.tuple #[.string ⟨#[105, 105]⟩, .bool true]) ∧ w = w'
    clear hne
    go_enter Tryd.func34, Tryd.ntmps34
    go_wp2_with fail
    simp [bodyPost, results, Tryd.results34, go_sem]
  by_cases h90 : c = 90
  · subst h90
    show Calls Tryd.prog 34 #[.int .u8 90] w fun e w' => e = .returned (.tuple #[.string ⟨#[98]⟩, .bool true]) ∧ w = w'
    clear hne
    go_enter Tryd.func34, Tryd.ntmps34
    go_wp2_with fail
    simp [bodyPost, results, Tryd.results34, go_sem]
  by_cases h67 : c = 67
  · subst h67
    show Calls Tryd.prog 34 #[.int .u8 67] w fun e w' => e = .returned (.tuple #[.string ⟨#[115]⟩, .bool true]) ∧ w = w'
    clear hne
    go_enter Tryd.func34, Tryd.ntmps34
    go_wp2_with fail
    simp [bodyPost, results, Tryd.results34, go_sem]
  by_cases h69 : c = 69
  · subst h69
    show Calls Tryd.prog 34 #[.int .u8 69] w fun e w' => e = .returned (.tuple #[.string ⟨#[102]⟩, .bool true]) ∧ w = w'
    clear hne
    go_enter Tryd.func34, Tryd.ntmps34
    go_wp2_with fail
    simp [bodyPost, results, Tryd.results34, go_sem]
  by_cases h78 : c = 78
  · subst h78
    show Calls Tryd.prog 34 #[.int .u8 78] w fun e w' => e = .returned (.tuple #[.string ⟨#[102]⟩, .bool true]) ∧ w = w'
    clear hne
    go_enter Tryd.func34, Tryd.ntmps34
    go_wp2_with fail
    simp [bodyPost, results, Tryd.results34, go_sem]
  by_cases h84 : c = 84
  · subst h84
    show Calls Tryd.prog 34 #[.int .u8 84] w fun e w' => e = .returned (.tuple #[.string ⟨#[109]⟩, .bool true]) ∧ w = w'
    clear hne
    go_enter Tryd.func34, Tryd.ntmps34
    go_wp2_with fail
    simp [bodyPost, results, Tryd.results34, go_sem]
  by_cases h68 : c = 68
  · subst h68
    show Calls Tryd.prog 34 #[.int .u8 68] w fun e w' => e = .returned (.tuple #[.string ⟨#[118]⟩, .bool true]) ∧ w = w'
    clear hne
    go_enter Tryd.func34, Tryd.ntmps34
    go_wp2_with fail
    simp [bodyPost, results, Tryd.results34, go_sem]
  by_cases h73 : c = 73
  · subst h73
    show Calls Tryd.prog 34 #[.int .u8 73] w fun e w' => e = .returned (.tuple #[.string ⟨#[]⟩, .bool true]) ∧ w = w'
    clear hne
    go_enter Tryd.func34, Tryd.ntmps34
    go_wp2_with fail
    simp [bodyPost, results, Tryd.results34, go_sem]
  by_cases h49 : c = 49
  · subst h49
    show Calls Tryd.prog 34 #[.int .u8 49] w fun e w' => e = .returned (.tuple #[.string ⟨#[]⟩, .bool true]) ∧ w = w'
    clear hne
    go_enter Tryd.func34, Tryd.ntmps34
    go_wp2_with fail
    simp [bodyPost, results, Tryd.results34, go_sem]
  by_cases h50 : c = 50
  · subst h50
    show Calls Tryd.prog 34 #[.int .u8 50] w fun e w' => e = .returned (.tuple #[.string ⟨#[]⟩, .bool true]) ∧ w = w'
    clear hne
    go_enter Tryd.func34, Tryd.ntmps34
    go_wp2_with fail
    simp [bodyPost, results, Tryd.results34, go_sem]
  by_cases h51 : c = 51
  · subst h51
    show Calls Tryd.prog 34 #[.int .u8 51] w fun e w' => e = .returned (.tuple #[.string ⟨#[]⟩, .bool true]) ∧ w = w'
    clear hne
    go_enter Tryd.func34, Tryd.ntmps34
    go_wp2_with fail
    simp [bodyPost, results, Tryd.results34, go_sem]
  by_cases h110 : c = 110
  · subst h110
    show Calls Tryd.prog 34 #[.int .u8 110] w fun e w' => e = .returned (.tuple #[.string ⟨#[]⟩, .bool true]) ∧ w = w'
    clear hne
    go_enter Tryd.func34, Tryd.ntmps34
    go_wp2_with fail
    simp [bodyPost, results, Tryd.results34, go_sem]
  by_cases h115 : c = 115
  · subst h115
    show Calls Tryd.prog 34 #[.int .u8 115] w fun e w' => e = .returned (.tuple #[.string ⟨#[]⟩, .bool true]) ∧ w = w'
    clear hne
    go_enter Tryd.func34, Tryd.ntmps34
    go_wp2_with fail
    simp [bodyPost, results, Tryd.results34, go_sem]
  have HE := Lib.hid (show layS c = none by unfold layS; rw [if_neg h82, if_neg h83, if_neg h75, if_neg h90, if_neg h67, if_neg h69, if_neg h78, if_neg h84, if_neg h68, if_neg h73, if_neg h49, if_neg h50, if_neg h51, if_neg h110, if_neg h115])
  rw [HE.out]
  have b82 : ((c.toNat : Int) == 82) = false := hne 82 h82
  have b83 : ((c.toNat : Int) == 83) = false := hne 83 h83
  have b75 : ((c.toNat : Int) == 75) = false := hne 75 h75
  have b90 : ((c.toNat : Int) == 90) = false := hne 90 h90
  have b67 : ((c.toNat : Int) == 67) = false := hne 67 h67
  have b69 : ((c.toNat : Int) == 69) = false := hne 69 h69
  have b78 : ((c.toNat : Int) == 78) = false := hne 78 h78
  have b84 : ((c.toNat : Int) == 84) = false := hne 84 h84
  have b68 : ((c.toNat : Int) == 68) = false := hne 68 h68
  have b73 : ((c.toNat : Int) == 73) = false := hne 73 h73
  have b49 : ((c.toNat : Int) == 49) = false := hne 49 h49
  have b50 : ((c.toNat : Int) == 50) = false := hne 50 h50
  have b51 : ((c.toNat : Int) == 51) = false := hne 51 h51
  have b110 : ((c.toNat : Int) == 110) = false := hne 110 h110
  have b115 : ((c.toNat : Int) == 115) = false := hne 115 h115
  generalize (c.toNat : Int) = x at *
  clear hne HE
  go_enter Tryd.func34, Tryd.ntmps34
  go_wp2_with fail
  simp [bodyPost, results, Tryd.results34, go_sem, layV]

set_option maxRecDepth 100000 in
set_option maxHeartbeats 8000000 in
theorem layC_any (w : World) (c : UInt8) :
    Calls Tryd.prog 35 #[.int .u8 (c.toNat : Nat)] w fun e w' => e = .returned (layV (layC c)) ∧ w = w' := by
  have hne : ∀ k : UInt8, ¬ c = k → ((c.toNat : Int) == (k.toNat : Nat)) = false := by
    intro k hk
    cases hb : ((c.toNat : Int) == (k.toNat : Nat)) with
    | false => rfl
    | true => exact absurd (UInt8.toNat_inj.mp (Int.ofNat.inj (eq_of_beq hb))) hk
  by_cases h0 : c = 0
  · subst h0
    show Calls Tryd.prog 35 #[.int .u8 0] w fun e w' => e = .returned (.tuple #[.string ⟨#[105, 112]⟩, .bool true]) ∧ w = w'
    clear hne
    go_enter Tryd.func35, Tryd.ntmps35
    go_wp2_with fail
    simp [bodyPost, results, Tryd.results35, go_sem]
  by_cases h81 : c = 81
  · subst h81
    show Calls Tryd.prog 35 #[.int .u8 81] w fun e w' => e = .returned (.tuple #[.string ⟨#[115]⟩, .bool true]) ∧ w = w'
    clear hne
    go_enter Tryd.func35, Tryd.ntmps35
    go_wp2_with fail
    simp [bodyPost, results, Tryd.results35, go_sem]
  by_cases h112 : c = 112
  · subst h112
    show Calls Tryd.prog 35 #[.int .u8 112] w fun e w' => e = .returned (.tuple #[.string ⟨#[115]⟩, .bool true]) ∧ w = w'
    clear hne
    go_enter Tryd.func35, Tryd.ntmps35
    go_wp2_with fail
    simp [bodyPost, results, Tryd.results35, go_sem]
  by_cases h88 : c = 88
  · subst h88
    show Calls Tryd.prog 35 #[.int .u8 88] w fun e w' => e = .returned (.tuple #[.string ⟨#[]⟩, .bool true]) ∧ w = w'
    clear hne
    go_enter Tryd.func35, Tryd.ntmps35
    go_wp2_with fail
    simp [bodyPost, results, Tryd.results35, go_sem]
  by_cases h83 : c = 83
  · subst h83
    show Calls Tryd.prog 35 #[.int .u8 83] w fun e w' => e = .returned (.tuple #[.string ⟨#[]⟩, .bool true]) ∧ w = w'
    clear hne
    go_enter Tryd.func35, Tryd.ntmps35
    go_wp2_with fail
    simp [bodyPost, results, Tryd.results35, go_sem]
  by_cases h72 : c = 72
  · subst h72
    show Calls Tryd.prog 35 #[.int .u8 72] w fun e w' => e = .returned (.tuple #[.string ⟨#[]⟩, .bool true]) ∧ w = w'
    clear hne
    go_enter Tryd.func35, Tryd.ntmps35
    go_wp2_with fail
    simp [bodyPost, results, Tryd.results35, go_sem]
  by_cases h80 : c = 80
  · subst h80
    show Calls Tryd.prog 35 #[.int .u8 80] w fun e w' => e = .returned (.tuple #[.string ⟨#[115, 115, 108]⟩, .bool true]) ∧ w = w'
    clear hne
    go_enter Tryd.func35, Tryd.ntmps35
    go_wp2_with fail
    simp [bodyPost, results, Tryd.results35, go_sem]
  by_cases h66 : c = 66
  · subst h66
    show Calls Tryd.prog 35 #[.int .u8 66] w fun e w' => e = .returned (.tuple #[.string ⟨#[115, 115, 99, 118, 99]⟩, .bool true]) ∧ w = w'
    clear hne
    go_enter Tryd.func35, Tryd.ntmps35
    go_wp2_with fail
    simp [bodyPost, results, Tryd.results35, go_sem]
  by_cases h69 : c = 69
  · subst h69
    show Calls Tryd.prog 35 #[.int .u8 69] w fun e w' => e = .returned (.tuple #[.string ⟨#[115, 105]⟩, .bool true]) ∧ w = w'
    clear hne
    go_enter Tryd.func35, Tryd.ntmps35
    go_wp2_with fail
    simp [bodyPost, results, Tryd.results35, go_sem]
  by_cases h68 : c = 68
  · subst h68
    show Calls Tryd.prog 35 #[.int .u8 68] w fun e w' => e = .returned (.tuple #[.string ⟨#[98, 115]⟩, .bool true]) ∧ w = w'
    clear hne
    go_enter Tryd.func35, Tryd.ntmps35
    go_wp2_with fail
    simp [bodyPost, results, Tryd.results35, go_sem]
  by_cases h67 : c = 67
  · subst h67
    show Calls Tryd.prog 35 #[.int .u8 67] w fun e w' => e = .returned (.tuple #[.string ⟨#[98, 115]⟩, .bool true]) ∧ w = w'
    clear hne
    go_enter Tryd.func35, Tryd.ntmps35
    go_wp2_with fail
    simp [bodyPost, results, Tryd.results35, go_sem]
  have HE := Lib.hid (show layC c = none by unfold layC; rw [if_neg h0, if_neg h81, if_neg h112, if_neg h88, if_neg h83, if_neg h72, if_neg h80, if_neg h66, if_neg h69, if_neg h68, if_neg h67])
  rw [HE.out]
  have b0 : ((c.toNat : Int) == 0) = false := hne 0 h0
  have b81 : ((c.toNat : Int) == 81) = false := hne 81 h81
  have b112 : ((c.toNat : Int) == 112) = false := hne 112 h112
  have b88 : ((c.toNat : Int) == 88) = false := hne 88 h88
  have b83 : ((c.toNat : Int) == 83) = false := hne 83 h83
  have b72 : ((c.toNat : Int) == 72) = false := hne 72 h72
  have b80 : ((c.toNat : Int) == 80) = false := hne 80 h80
  have b66 : ((c.toNat : Int) == 66) = false := hne 66 h66
  have b69 : ((c.toNat : Int) == 69) = false := hne 69 h69
  have b68 : ((c.toNat : Int) == 68) = false := hne 68 h68
  have b67 : ((c.toNat : Int) == 67) = false := hne 67 h67
  generalize (c.toNat : Int) = x at *
  clear hne HE
  go_enter Tryd.func35, Tryd.ntmps35
  go_wp2_with fail
  simp [bodyPost, results, Tryd.results35, go_sem, layV]

theorem lay_any (w : World) (back : Bool) (c : UInt8) :
    Calls Tryd.prog 22 #[.bool back, .int .u8 (c.toNat : Nat)] w fun e w' => e = .returned (layV (lay back c)) ∧ w = w' := by
  cases back with
  | true =>
    go_enter Tryd.func22, Tryd.ntmps22
    go_wp2_with fail
    refine (layS_any _ c).mono ?_; rintro e w1 ⟨rfl, rfl⟩
    unfold layV
    go_wp2_with fail
    simp [bodyPost, results, Tryd.results22, go_sem]
    rfl
  | false =>
    go_enter Tryd.func22, Tryd.ntmps22
    go_wp2_with fail
    refine (layC_any _ c).mono ?_; rintro e w1 ⟨rfl, rfl⟩
    unfold layV
    go_wp2_with fail
    simp [bodyPost, results, Tryd.results22, go_sem]
    rfl

end Go.Proofs.YtfdffiphlpeegaaDoor
