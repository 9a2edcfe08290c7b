/- Go's shortest digits of a float. -/
import Derived.Test.YtaalopiegabghaaGreatDoorFTab
import Derived.BigQuiet
import Derived.Deep.QuietTactic
namespace Go.Proofs.YtaalopiegabghaaGreatDoor
open Go.RowKit Go.Lib Go.WideShapes

theorem ret_num {k : IntKind} {a b : Int} (h : a = b) : Ending.returned (.int k a) = .returned (.int k b) := by rw [h]

theorem log10_any (k : Nat) (hk : k ≤ 1000) (w : World) : Calls Tryz.prog 64 #[.int .i64 (-(k : Int))] w fun e w' => e = .returned (.int .i64 (-(pN k : Nat))) ∧ w = w' := by
  have HP := Lib.hid (show (-(k : Int) * 78913) / 262144 = -(pN k : Nat) by unfold pN; omega)
  have hk' : (k : Int) ≤ 1000 := by omega
  go_enter Tryz.func64, Tryz.ntmps64
  go_wp2_with fail
  go_ret
  refine ⟨?_, rfl⟩
  exact ret_num HP.out
theorem skewed_any (k : Nat) (hk : k ≤ 1000) (w : World) : Calls Tryz.prog 95 #[.int .i64 (-(k : Int))] w fun e w' => e = .returned (.int .i64 (-(pS k : Nat))) ∧ w = w' := by
  have HP := Lib.hid (show (-(k : Int) * 631305 - 261663) / 2097152 = -(pS k : Nat) by unfold pS; omega)
  have hk' : (k : Int) ≤ 1000 := by omega
  go_enter Tryz.func95, Tryz.ntmps95
  go_wp2_with fail
  go_ret
  refine ⟨?_, rfl⟩
  exact ret_num HP.out
theorem log2ten_any (p : Nat) (hp : p ≤ 1000) (w : World) : Calls Tryz.prog 97 #[.int .i64 p] w fun e w' => e = .returned (.int .i64 (l2 p : Nat)) ∧ w = w' := by
  have HP := Lib.hid (show ((p : Int) * 108853) / 32768 = (l2 p : Nat) by unfold l2; omega)
  have hk' : (p : Int) ≤ 1000 := by omega
  go_enter Tryz.func97, Tryz.ntmps97
  go_wp2_with fail
  go_ret
  refine ⟨?_, rfl⟩
  exact ret_num HP.out
theorem floor_any (u : Nat) (hu : u < 18446744073709551616) (w : World) : Calls Tryz.prog 101 #[.int .u64 u] w fun e w' => e = .returned (.int .u64 (u / 4 : Nat)) ∧ w = w' := by
  have hu' : (u : Int) < 18446744073709551616 := by omega
  go_enter Tryz.func101, Tryz.ntmps101
  go_wp2_with fail
  go_ret
  refine ⟨?_, rfl⟩
  exact ret_num (by omega)
theorem ceil_any (u : Nat) (hu : u + 3 < 18446744073709551616) (w : World) : Calls Tryz.prog 100 #[.int .u64 u] w fun e w' => e = .returned (.int .u64 ((u + 3) / 4 : Nat)) ∧ w = w' := by
  have hu' : (u : Int) + 3 < 18446744073709551616 := by omega
  go_enter Tryz.func100, Tryz.ntmps100
  go_wp2_with fail
  go_ret
  refine ⟨?_, rfl⟩
  exact ret_num (by omega)
theorem nudge_up (u o : Nat) (hu : u + o < 18446744073709551616) (w : World) : Calls Tryz.prog 99 #[.int .u64 u, .int .i64 o] w fun e w' => e = .returned (.int .u64 (u + o : Nat)) ∧ w = w' := by
  have hu' : (u : Int) + o < 18446744073709551616 := by omega
  go_enter Tryz.func99, Tryz.ntmps99
  go_wp2_with fail
  go_ret
  refine ⟨?_, rfl⟩
  exact ret_num (by omega)
theorem nudge_down (u o : Nat) (ho : o ≤ 1) (hu : o ≤ u) (hu2 : u < 18446744073709551616) (w : World) : Calls Tryz.prog 99 #[.int .u64 u, .int .i64 (-(o : Int))] w fun e w' => e = .returned (.int .u64 (u - o : Nat)) ∧ w = w' := by
  have hu' : (o : Int) ≤ u := by omega
  have ho' : (o : Int) ≤ 1 := by omega
  have hu2' : (u : Int) < 18446744073709551616 := by omega
  go_enter Tryz.func99, Tryz.ntmps99
  go_wp2_with fail
  go_ret
  refine ⟨?_, rfl⟩
  refine ret_num ?_
  rw [IntKind.wrap_u64, IntKind.wrap_u64]; omega

/-- The scaler in block b. -/
def PreAt (w : World) (b H s : Nat) : Prop := w.cell? ⟨b, 0, none⟩ = some (.int .u64 H) ∧ w.cell? ⟨b, 1, none⟩ = some (.int .u64 0) ∧ w.cell? ⟨b, 2, none⟩ = some (.int .i64 s)
set_option maxRecDepth 100000 in
set_option maxHeartbeats 4000000 in
theorem prescale_any (b k p s : Nat) (E : Int) (w : World) (hE : E = -((k : Int) + 11)) (hk0 : k ≤ 72) (hT : Tabs w) (hb : b = w.heap.size) (h0 : 7 ≤ p) (h : p ≤ 22) (hs : k + 8 = l2 p + s) (hs63 : s ≤ 63) :
    Calls Tryz.prog 96 #[.pointer (some ⟨b, 0, none⟩), .int .i64 E, .int .i64 p, .int .i64 (l2 p)] (w.alloc (.cells #[.int .u64 0, .int .u64 0, .int .i64 0] 153)) fun e w' => e = .returned (.tuple #[]) ∧ w' = w.alloc (.cells #[.int .u64 (tenHi p), .int .u64 0, .int .i64 s] 153) := by
  obtain ⟨c0, c1⟩ := hT.p10 p h0 h
  have hlt : 11 < w.heap.size := World.block_lt_of_cell? w ⟨11, (p + 348) * 2, none⟩ c0
  have hne : (11 : Nat) ≠ w.heap.size := Nat.ne_of_lt hlt
  obtain ⟨T, hTen⟩ : ∃ T, T = tenHi p := ⟨_, rfl⟩
  obtain ⟨L, hL⟩ : ∃ L, L = l2 p := ⟨_, rfl⟩
  rw [← hTen] at c0 ⊢
  rw [← hL] at hs ⊢
  have hk : (s : Int) = -(E + L + 3) := by omega
  have hp' : (p : Int) ≤ 22 := by omega
  have hL2 : (L : Int) ≤ 100 := by unfold l2 at hL; omega
  have hkk : -200 ≤ E ∧ E ≤ 0 := by omega
  rw [hk]
  subst hb
  obtain ⟨hk1, hk2⟩ := hkk
  clear hTen hL hs hs63 hk hT h0 h hE hk0
  go_enter Tryz.func96, Tryz.ntmps96
  go_wp2_with fail
  go_end0
  exact ⟨rfl, rfl⟩

theorem bool2_t (w : World) : Calls Tryz.prog 87 #[.bool true] w fun e w' => e = .returned (.int .u64 1) ∧ w = w' := bool2_u64 true w
theorem bool2_f (w : World) : Calls Tryz.prog 87 #[.bool false] w fun e w' => e = .returned (.int .u64 0) ∧ w = w' := bool2_u64 false w
theorem bool2_tq (w : World) : Calls Tryz.prog 87 #[.bool true] w fun e w' => e = .returned (.int .u64 1) ∧ w' = w := (bool2_t w).mono fun _ _ ⟨a, b⟩ => ⟨a, b.symm⟩
theorem bool2_fq (w : World) : Calls Tryz.prog 87 #[.bool false] w fun e w' => e = .returned (.int .u64 0) ∧ w' = w := (bool2_f w).mono fun _ _ ⟨a, b⟩ => ⟨a, b.symm⟩
theorem or_nat (a b : Nat) (ha : a < 18446744073709551616) (hb : b < 18446744073709551616) : bits BinOp.or .u64 (a : Int) (b : Int) = ((a ||| b : Nat) : Int) := bits_or_u64_nat a b ha hb
set_option maxRecDepth 100000 in
set_option maxHeartbeats 8000000 in
theorem uscale_any (x H s b : Nat) (w : World) (hP : PreAt w b H s) (hx : x < 18446744073709551616) (hx2 : x % 2 = 0) (hH : H < 18446744073709551616) (hs0 : 4 ≤ s) (hs : s ≤ 8) :
    Calls Tryz.prog 98 #[.int .u64 x, .pointer (some ⟨b, 0, none⟩)] w fun e w' => e = .returned (.int .u64 (uq (x * H) (64 + s) : Nat)) ∧ ∃ n, w' = w.drewN n := by
  obtain ⟨c0, c1, c2⟩ := hP
  have HM := Lib.hid (fun W => Tryz.bits_Mul64 x H hx hH W)
  have HM0 := Lib.hid (show ∀ W, Calls Tryz.prog 128 #[.int .u64 x, .int .u64 0] W fun e w' => e = .returned (.tuple #[.int .u64 0, .int .u64 0]) ∧ w' = W from fun W => by have h := Tryz.bits_Mul64 x 0 hx (by decide) W; rw [Nat.mul_zero] at h; exact h)
  have hev : x * H % 2 = 0 := by rw [Nat.mul_mod, hx2, Nat.zero_mul]
  have HU := Lib.hid (uq_parts (x * H) s hev)
  obtain ⟨P, hPe⟩ : ∃ P, P = x * H := ⟨_, rfl⟩
  rw [← hPe] at HM HU ⊢
  have hPl : P / 18446744073709551616 < 18446744073709551616 := Nat.div_lt_of_lt_mul (by rw [hPe]; exact Nat.mul_lt_mul'' hx hH)
  obtain ⟨hi, hhi⟩ : ∃ hi, hi = P / 18446744073709551616 := ⟨_, rfl⟩
  obtain ⟨mid, hmid⟩ : ∃ mid, mid = P % 18446744073709551616 := ⟨_, rfl⟩
  rw [← hhi, ← hmid] at HM HU
  rw [← hhi] at hPl
  have hmid2 : mid < 18446744073709551616 := by rw [hmid]; exact Nat.mod_lt _ (by decide)
  obtain ⟨R, hR⟩ : ∃ R, R = uq P (64 + s) := ⟨_, rfl⟩
  rw [← hR]
  rw [HU.out] at hR
  have hmi : (mid : Int) < 18446744073709551616 := by omega
  have hhl : (hi : Int) < 18446744073709551616 := by omega
  clear hPe hhi hmid hev HU hx2 hx hH
  rcases (by omega : s = 4 ∨ s = 5 ∨ s = 6 ∨ s = 7 ∨ s = 8) with rfl | rfl | rfl | rfl | rfl
  · have ha : bits BinOp.and .i64 4 63 = 4 := by decide
    rw [show (2 ^ 4 : Nat) = 16 from rfl] at hR
    obtain ⟨q, hq⟩ : ∃ q, q = hi / 16 := ⟨_, rfl⟩
    rw [← hq] at hR
    have hqi : (hi : Int) / 16 = q := by rw [hq]; omega
    have hql : q < 18446744073709551616 := by omega
    have hqs : (q : Int) * 16 < 18446744073709551616 := by omega
    have hsub : IntKind.u64.wrap (mid : Int) = mid := by rw [IntKind.wrap_u64]; omega
    by_cases hz : hi % 16 = 0
    · rw [if_pos hz] at hR
      have hne : ((q : Int) * 16 != hi) = false := by rw [bne_eq_false_iff_eq]; omega
      have h0m : decide ((mid : Int) < 0) = false := decide_eq_false (by omega)
      by_cases hm : 1 < mid
      · rw [if_pos hm] at hR
        have HR := Lib.hid hR
        have hor := or_nat q 1 hql (by decide)
        have h1m : decide ((1 : Int) < mid) = true := decide_eq_true (by omega)
        clear hR hz hm hq
        go_enter Tryz.func98, Tryz.ntmps98
        go_wp2_with fail
        refine (HM.out _).mono ?_; rintro e w' ⟨rfl, rfl⟩
        go_wp2_with fail
        refine (HM0.out _).mono ?_; rintro e w' ⟨rfl, rfl⟩
        go_wp2_with fail
        refine (bool2_f _).mono ?_; rintro e w' ⟨rfl, rfl⟩
        go_wp2_with fail
        go_quiet ((go_at_call 87; exact Calls.quiet_of_same (bool2_tq _)))
        go_wp2_with fail
        go_ret
        exact ⟨by rw [HR.out]; exact ret_num hor, _, rfl⟩
      · rw [if_neg hm] at hR
        have HR := Lib.hid hR
        have hor := or_nat q 0 hql (by decide)
        have h1m : decide ((1 : Int) < mid) = false := decide_eq_false (by omega)
        clear hR hz hm hq
        go_enter Tryz.func98, Tryz.ntmps98
        go_wp2_with fail
        refine (HM.out _).mono ?_; rintro e w' ⟨rfl, rfl⟩
        go_wp2_with fail
        refine (HM0.out _).mono ?_; rintro e w' ⟨rfl, rfl⟩
        go_wp2_with fail
        refine (bool2_f _).mono ?_; rintro e w' ⟨rfl, rfl⟩
        go_wp2_with fail
        go_quiet ((go_at_call 87; exact Calls.quiet_of_same (bool2_fq _)))
        go_wp2_with fail
        go_ret
        exact ⟨by rw [HR.out]; exact ret_num hor, _, rfl⟩
    · rw [if_neg hz] at hR
      have HR := Lib.hid hR
      have hne : ((q : Int) * 16 != hi) = true := by rw [bne_iff_ne]; omega
      have hor := or_nat q 1 hql (by decide)
      clear hR hz hq
      go_enter Tryz.func98, Tryz.ntmps98
      go_wp2_with fail
      refine (HM.out _).mono ?_; rintro e w' ⟨rfl, rfl⟩
      go_wp2_with fail
      go_ret
      exact ⟨by rw [HR.out]; exact ret_num hor, 0, rfl⟩
  · have ha : bits BinOp.and .i64 5 63 = 5 := by decide
    rw [show (2 ^ 5 : Nat) = 32 from rfl] at hR
    obtain ⟨q, hq⟩ : ∃ q, q = hi / 32 := ⟨_, rfl⟩
    rw [← hq] at hR
    have hqi : (hi : Int) / 32 = q := by rw [hq]; omega
    have hql : q < 18446744073709551616 := by omega
    have hqs : (q : Int) * 32 < 18446744073709551616 := by omega
    have hsub : IntKind.u64.wrap (mid : Int) = mid := by rw [IntKind.wrap_u64]; omega
    by_cases hz : hi % 32 = 0
    · rw [if_pos hz] at hR
      have hne : ((q : Int) * 32 != hi) = false := by rw [bne_eq_false_iff_eq]; omega
      have h0m : decide ((mid : Int) < 0) = false := decide_eq_false (by omega)
      by_cases hm : 1 < mid
      · rw [if_pos hm] at hR
        have HR := Lib.hid hR
        have hor := or_nat q 1 hql (by decide)
        have h1m : decide ((1 : Int) < mid) = true := decide_eq_true (by omega)
        clear hR hz hm hq
        go_enter Tryz.func98, Tryz.ntmps98
        go_wp2_with fail
        refine (HM.out _).mono ?_; rintro e w' ⟨rfl, rfl⟩
        go_wp2_with fail
        refine (HM0.out _).mono ?_; rintro e w' ⟨rfl, rfl⟩
        go_wp2_with fail
        refine (bool2_f _).mono ?_; rintro e w' ⟨rfl, rfl⟩
        go_wp2_with fail
        go_quiet ((go_at_call 87; exact Calls.quiet_of_same (bool2_tq _)))
        go_wp2_with fail
        go_ret
        exact ⟨by rw [HR.out]; exact ret_num hor, _, rfl⟩
      · rw [if_neg hm] at hR
        have HR := Lib.hid hR
        have hor := or_nat q 0 hql (by decide)
        have h1m : decide ((1 : Int) < mid) = false := decide_eq_false (by omega)
        clear hR hz hm hq
        go_enter Tryz.func98, Tryz.ntmps98
        go_wp2_with fail
        refine (HM.out _).mono ?_; rintro e w' ⟨rfl, rfl⟩
        go_wp2_with fail
        refine (HM0.out _).mono ?_; rintro e w' ⟨rfl, rfl⟩
        go_wp2_with fail
        refine (bool2_f _).mono ?_; rintro e w' ⟨rfl, rfl⟩
        go_wp2_with fail
        go_quiet ((go_at_call 87; exact Calls.quiet_of_same (bool2_fq _)))
        go_wp2_with fail
        go_ret
        exact ⟨by rw [HR.out]; exact ret_num hor, _, rfl⟩
    · rw [if_neg hz] at hR
      have HR := Lib.hid hR
      have hne : ((q : Int) * 32 != hi) = true := by rw [bne_iff_ne]; omega
      have hor := or_nat q 1 hql (by decide)
      clear hR hz hq
      go_enter Tryz.func98, Tryz.ntmps98
      go_wp2_with fail
      refine (HM.out _).mono ?_; rintro e w' ⟨rfl, rfl⟩
      go_wp2_with fail
      go_ret
      exact ⟨by rw [HR.out]; exact ret_num hor, 0, rfl⟩
  · have ha : bits BinOp.and .i64 6 63 = 6 := by decide
    rw [show (2 ^ 6 : Nat) = 64 from rfl] at hR
    obtain ⟨q, hq⟩ : ∃ q, q = hi / 64 := ⟨_, rfl⟩
    rw [← hq] at hR
    have hqi : (hi : Int) / 64 = q := by rw [hq]; omega
    have hql : q < 18446744073709551616 := by omega
    have hqs : (q : Int) * 64 < 18446744073709551616 := by omega
    have hsub : IntKind.u64.wrap (mid : Int) = mid := by rw [IntKind.wrap_u64]; omega
    by_cases hz : hi % 64 = 0
    · rw [if_pos hz] at hR
      have hne : ((q : Int) * 64 != hi) = false := by rw [bne_eq_false_iff_eq]; omega
      have h0m : decide ((mid : Int) < 0) = false := decide_eq_false (by omega)
      by_cases hm : 1 < mid
      · rw [if_pos hm] at hR
        have HR := Lib.hid hR
        have hor := or_nat q 1 hql (by decide)
        have h1m : decide ((1 : Int) < mid) = true := decide_eq_true (by omega)
        clear hR hz hm hq
        go_enter Tryz.func98, Tryz.ntmps98
        go_wp2_with fail
        refine (HM.out _).mono ?_; rintro e w' ⟨rfl, rfl⟩
        go_wp2_with fail
        refine (HM0.out _).mono ?_; rintro e w' ⟨rfl, rfl⟩
        go_wp2_with fail
        refine (bool2_f _).mono ?_; rintro e w' ⟨rfl, rfl⟩
        go_wp2_with fail
        go_quiet ((go_at_call 87; exact Calls.quiet_of_same (bool2_tq _)))
        go_wp2_with fail
        go_ret
        exact ⟨by rw [HR.out]; exact ret_num hor, _, rfl⟩
      · rw [if_neg hm] at hR
        have HR := Lib.hid hR
        have hor := or_nat q 0 hql (by decide)
        have h1m : decide ((1 : Int) < mid) = false := decide_eq_false (by omega)
        clear hR hz hm hq
        go_enter Tryz.func98, Tryz.ntmps98
        go_wp2_with fail
        refine (HM.out _).mono ?_; rintro e w' ⟨rfl, rfl⟩
        go_wp2_with fail
        refine (HM0.out _).mono ?_; rintro e w' ⟨rfl, rfl⟩
        go_wp2_with fail
        refine (bool2_f _).mono ?_; rintro e w' ⟨rfl, rfl⟩
        go_wp2_with fail
        go_quiet ((go_at_call 87; exact Calls.quiet_of_same (bool2_fq _)))
        go_wp2_with fail
        go_ret
        exact ⟨by rw [HR.out]; exact ret_num hor, _, rfl⟩
    · rw [if_neg hz] at hR
      have HR := Lib.hid hR
      have hne : ((q : Int) * 64 != hi) = true := by rw [bne_iff_ne]; omega
      have hor := or_nat q 1 hql (by decide)
      clear hR hz hq
      go_enter Tryz.func98, Tryz.ntmps98
      go_wp2_with fail
      refine (HM.out _).mono ?_; rintro e w' ⟨rfl, rfl⟩
      go_wp2_with fail
      go_ret
      exact ⟨by rw [HR.out]; exact ret_num hor, 0, rfl⟩
  · have ha : bits BinOp.and .i64 7 63 = 7 := by decide
    rw [show (2 ^ 7 : Nat) = 128 from rfl] at hR
    obtain ⟨q, hq⟩ : ∃ q, q = hi / 128 := ⟨_, rfl⟩
    rw [← hq] at hR
    have hqi : (hi : Int) / 128 = q := by rw [hq]; omega
    have hql : q < 18446744073709551616 := by omega
    have hqs : (q : Int) * 128 < 18446744073709551616 := by omega
    have hsub : IntKind.u64.wrap (mid : Int) = mid := by rw [IntKind.wrap_u64]; omega
    by_cases hz : hi % 128 = 0
    · rw [if_pos hz] at hR
      have hne : ((q : Int) * 128 != hi) = false := by rw [bne_eq_false_iff_eq]; omega
      have h0m : decide ((mid : Int) < 0) = false := decide_eq_false (by omega)
      by_cases hm : 1 < mid
      · rw [if_pos hm] at hR
        have HR := Lib.hid hR
        have hor := or_nat q 1 hql (by decide)
        have h1m : decide ((1 : Int) < mid) = true := decide_eq_true (by omega)
        clear hR hz hm hq
        go_enter Tryz.func98, Tryz.ntmps98
        go_wp2_with fail
        refine (HM.out _).mono ?_; rintro e w' ⟨rfl, rfl⟩
        go_wp2_with fail
        refine (HM0.out _).mono ?_; rintro e w' ⟨rfl, rfl⟩
        go_wp2_with fail
        refine (bool2_f _).mono ?_; rintro e w' ⟨rfl, rfl⟩
        go_wp2_with fail
        go_quiet ((go_at_call 87; exact Calls.quiet_of_same (bool2_tq _)))
        go_wp2_with fail
        go_ret
        exact ⟨by rw [HR.out]; exact ret_num hor, _, rfl⟩
      · rw [if_neg hm] at hR
        have HR := Lib.hid hR
        have hor := or_nat q 0 hql (by decide)
        have h1m : decide ((1 : Int) < mid) = false := decide_eq_false (by omega)
        clear hR hz hm hq
        go_enter Tryz.func98, Tryz.ntmps98
        go_wp2_with fail
        refine (HM.out _).mono ?_; rintro e w' ⟨rfl, rfl⟩
        go_wp2_with fail
        refine (HM0.out _).mono ?_; rintro e w' ⟨rfl, rfl⟩
        go_wp2_with fail
        refine (bool2_f _).mono ?_; rintro e w' ⟨rfl, rfl⟩
        go_wp2_with fail
        go_quiet ((go_at_call 87; exact Calls.quiet_of_same (bool2_fq _)))
        go_wp2_with fail
        go_ret
        exact ⟨by rw [HR.out]; exact ret_num hor, _, rfl⟩
    · rw [if_neg hz] at hR
      have HR := Lib.hid hR
      have hne : ((q : Int) * 128 != hi) = true := by rw [bne_iff_ne]; omega
      have hor := or_nat q 1 hql (by decide)
      clear hR hz hq
      go_enter Tryz.func98, Tryz.ntmps98
      go_wp2_with fail
      refine (HM.out _).mono ?_; rintro e w' ⟨rfl, rfl⟩
      go_wp2_with fail
      go_ret
      exact ⟨by rw [HR.out]; exact ret_num hor, 0, rfl⟩
  · have ha : bits BinOp.and .i64 8 63 = 8 := by decide
    rw [show (2 ^ 8 : Nat) = 256 from rfl] at hR
    obtain ⟨q, hq⟩ : ∃ q, q = hi / 256 := ⟨_, rfl⟩
    rw [← hq] at hR
    have hqi : (hi : Int) / 256 = q := by rw [hq]; omega
    have hql : q < 18446744073709551616 := by omega
    have hqs : (q : Int) * 256 < 18446744073709551616 := by omega
    have hsub : IntKind.u64.wrap (mid : Int) = mid := by rw [IntKind.wrap_u64]; omega
    by_cases hz : hi % 256 = 0
    · rw [if_pos hz] at hR
      have hne : ((q : Int) * 256 != hi) = false := by rw [bne_eq_false_iff_eq]; omega
      have h0m : decide ((mid : Int) < 0) = false := decide_eq_false (by omega)
      by_cases hm : 1 < mid
      · rw [if_pos hm] at hR
        have HR := Lib.hid hR
        have hor := or_nat q 1 hql (by decide)
        have h1m : decide ((1 : Int) < mid) = true := decide_eq_true (by omega)
        clear hR hz hm hq
        go_enter Tryz.func98, Tryz.ntmps98
        go_wp2_with fail
        refine (HM.out _).mono ?_; rintro e w' ⟨rfl, rfl⟩
        go_wp2_with fail
        refine (HM0.out _).mono ?_; rintro e w' ⟨rfl, rfl⟩
        go_wp2_with fail
        refine (bool2_f _).mono ?_; rintro e w' ⟨rfl, rfl⟩
        go_wp2_with fail
        go_quiet ((go_at_call 87; exact Calls.quiet_of_same (bool2_tq _)))
        go_wp2_with fail
        go_ret
        exact ⟨by rw [HR.out]; exact ret_num hor, _, rfl⟩
      · rw [if_neg hm] at hR
        have HR := Lib.hid hR
        have hor := or_nat q 0 hql (by decide)
        have h1m : decide ((1 : Int) < mid) = false := decide_eq_false (by omega)
        clear hR hz hm hq
        go_enter Tryz.func98, Tryz.ntmps98
        go_wp2_with fail
        refine (HM.out _).mono ?_; rintro e w' ⟨rfl, rfl⟩
        go_wp2_with fail
        refine (HM0.out _).mono ?_; rintro e w' ⟨rfl, rfl⟩
        go_wp2_with fail
        refine (bool2_f _).mono ?_; rintro e w' ⟨rfl, rfl⟩
        go_wp2_with fail
        go_quiet ((go_at_call 87; exact Calls.quiet_of_same (bool2_fq _)))
        go_wp2_with fail
        go_ret
        exact ⟨by rw [HR.out]; exact ret_num hor, _, rfl⟩
    · rw [if_neg hz] at hR
      have HR := Lib.hid hR
      have hne : ((q : Int) * 256 != hi) = true := by rw [bne_iff_ne]; omega
      have hor := or_nat q 1 hql (by decide)
      clear hR hz hq
      go_enter Tryz.func98, Tryz.ntmps98
      go_wp2_with fail
      refine (HM.out _).mono ?_; rintro e w' ⟨rfl, rfl⟩
      go_wp2_with fail
      go_ret
      exact ⟨by rw [HR.out]; exact ret_num hor, 0, rfl⟩
end Go.Proofs.YtaalopiegabghaaGreatDoor
