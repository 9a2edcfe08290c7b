/- The library's tables, as the call meets them; small functions of its. -/
import Derived.Test.YtaalopiegabghaaGreatDoorFRead
import Derived.Test.YtaalopiegabghaaGreatDoorFS
import Derived.Test.YtaalopiegabghaaGreatDoorShelf
import Derived.Laws.FloatArith
import Derived.Laws.Externs
import GoSem.Extern.MathFloatBits
namespace Go.Proofs.YtaalopiegabghaaGreatDoor
open Go.RowKit Go.Lib Go.WideShapes

/-- The tables that parsing and formatting read. -/
structure Tabs (w : World) : Prop where
  opt : w.cell? ⟨3, 0, none⟩ = some (.bool true)
  mant : w.cell? ⟨6, 0, none⟩ = some (.int .u64 52)
  ten : ∃ b o c, w.cell? ⟨10, 0, none⟩ = some (.slice (some ⟨b, o, none⟩) 23 c) ∧ ∀ p, p ≤ 6 → w.cell? ⟨b, o + p, none⟩ = some (.float .f64 (Ieee.double.write (.number false (10 ^ p) 0)))
  u10 : Lib.TabIs Tryz.prog w "internal/strconv.uint64pow10" .u64 Lib.pow10Tab
  p10 : ∀ p, 7 ≤ p → p ≤ 22 → w.cell? ⟨11, (p + 348) * 2, none⟩ = some (.int .u64 (tenHi p : Nat)) ∧ w.cell? ⟨11, (p + 348) * 2 + 1, none⟩ = some (.int .u64 0)
  len : ∃ m, w.cell? ⟨4, 0, none⟩ = some (.int .i64 m)

theorem bool2_u64 (b : Bool) (w : World) : Calls Tryz.prog 87 #[.bool b] w fun e w' => e = .returned (.int .u64 (if b = true then 1 else 0)) ∧ w = w' := by
  cases b <;> (go_enter Tryz.func87, Tryz.ntmps87; go_wp2_with fail; go_ret; exact ⟨rfl, rfl⟩)

theorem frombits_run (n : Int) (w : World) : (callFunc 88 #[.int .u64 n]).run Tryz.prog w = .ok (.value (.float .f64 n.toNat)) w := by
  rw [run_callFunc_extern Tryz.func88 (by kernel_rfl) (by kernel_rfl) (by kernel_rfl) (e := Go.Extern.MathFloatBits.float64frombits) (by kernel_rfl)]; rfl
theorem bits_run (n : Nat) (w : World) : (callFunc 56 #[.float .f64 n]).run Tryz.prog w = .ok (.value (.int .u64 n)) w := by
  rw [run_callFunc_extern Tryz.func56 (by kernel_rfl) (by kernel_rfl) (by kernel_rfl) (e := Go.Extern.MathFloatBits.float64bits) (by kernel_rfl)]; rfl

/-- What the quick way gives. -/
def ExactOut (neg : Bool) (X : Nat) (w : World) (e : Ending) (w' : World) : Prop := ∃ r, FltOf neg X r ∧ e = .returned (.tuple #[.float .f64 r, .bool true]) ∧ w = w'
set_option maxRecDepth 100000 in
set_option maxHeartbeats 4000000 in
theorem exact_any (M p : Nat) (neg : Bool) (w : World) (hT : Tabs w) (hM0 : 0 < M) (hX : M * 10 ^ (6 - p) < 1000000000000000) (hp : p ≤ 6) :
    Calls Tryz.prog 89 #[.int .u64 M, .int .i64 (-(p : Int)), .bool neg] w (ExactOut neg (M * 10 ^ (6 - p)) w) := by
  have hM : M < 1000000000000000 := Nat.lt_of_le_of_lt (Nat.le_mul_of_pos_right _ (Nat.pow_pos (by decide))) hX
  have c0 := hT.mant
  obtain ⟨b, o, c, c1, c2⟩ := hT.ten
  have c3 := c2 p hp
  have hq : ((M : Int) / 4503599627370496 != 0) = false := by
    have : (M : Int) / 4503599627370496 = 0 := by omega
    rw [this]; rfl
  have hni := neg_int neg M hM0 hM
  obtain ⟨F0, hF0⟩ : ∃ F0, floatOfInt .f64 (M : Int) = F0 := ⟨_, rfl⟩
  by_cases hp0 : p = 0
  · subst hp0
    have hfw := flt_whole neg M hM0 hX
    rw [← hni] at hfw
    rw [hF0] at hfw
    have HF := Lib.hid hfw
    clear c1 c2 c3 hT hX hM hM0 hni hfw
    cases neg with
    | false =>
      go_enter Tryz.func89, Tryz.ntmps89
      go_wp2_with fail
      go_ret2
      exact ⟨_, HF.out, rfl, rfl⟩
    | true =>
      have hrn : (Op.unary UnOp.neg (.float .f64 F0)).run Tryz.prog w = .ok (.float .f64 (Op.negFloat .f64 F0)) w := rfl
      go_enter Tryz.func89, Tryz.ntmps89
      go_wp2_with fail
      go_ret2
      exact ⟨_, HF.out, rfl, rfl⟩
  · obtain ⟨r, hr, hf⟩ := flt_div neg M p hM0 hX (by omega) hp
    rw [← hni, hF0] at hr
    obtain ⟨ten, hten⟩ : ∃ t, t = Ieee.double.write (.number false (10 ^ p) 0) := ⟨_, rfl⟩
    rw [← hten] at c3 hr
    have HF := Lib.hid hf
    clear c2 hT hX hM hM0 hten hni hf
    cases neg with
    | false =>
      have hdv : (binOp BinOp.quo 43 (.float .f64 F0) (.float .f64 ten)).run Tryz.prog w = .ok (.float .f64 r) w := run_float_arith w .quo _ .f64 F0 ten r hr
      have HR := Lib.hid hr
      clear hr
      rcases (by omega : p = 1 ∨ p = 2 ∨ p = 3 ∨ p = 4 ∨ p = 5 ∨ p = 6) with rfl | rfl | rfl | rfl | rfl | rfl
      all_goals
        go_enter Tryz.func89, Tryz.ntmps89
        go_wp2_with fail
        go_ret2
        exact ⟨_, HF.out, rfl, rfl⟩
    | true =>
      have hrn : (Op.unary UnOp.neg (.float .f64 F0)).run Tryz.prog w = .ok (.float .f64 (Op.negFloat .f64 F0)) w := rfl
      obtain ⟨F1, hF1⟩ : ∃ F1, F1 = Op.negFloat .f64 F0 := ⟨_, rfl⟩
      rw [if_pos rfl, ← hF1] at hr
      rw [← hF1] at hrn
      have hdv : (binOp BinOp.quo 43 (.float .f64 F1) (.float .f64 ten)).run Tryz.prog w = .ok (.float .f64 r) w := run_float_arith w .quo _ .f64 F1 ten r hr
      clear hr hF1
      rcases (by omega : p = 1 ∨ p = 2 ∨ p = 3 ∨ p = 4 ∨ p = 5 ∨ p = 6) with rfl | rfl | rfl | rfl | rfl | rfl
      all_goals
        go_enter Tryz.func89, Tryz.ntmps89
        go_wp2_with fail
        go_ret2
        exact ⟨_, HF.out, rfl, rfl⟩
end Go.Proofs.YtaalopiegabghaaGreatDoor
