/- Go's shortest digits of a float: the whole function. -/
import Derived.Test.YtaalopiegabghaaGreatDoorFShort
import Derived.Deep.Cut
namespace Go.Proofs.YtaalopiegabghaaGreatDoor
open Go.RowKit Go.Lib Go.WideShapes

theorem bits_and_i64_nat (a b : Nat) (ha : a < 9223372036854775808) (hb : b < 9223372036854775808) : bits .and .i64 (a : Int) (b : Int) = ((a &&& b : Nat) : Int) := by
  have hx : a &&& b < 2 ^ 63 := Nat.and_lt_two_pow _ (by omega)
  have h1 : (BitVec.ofInt 64 (a : Int)).toNat = a := by
    rw [BitVec.ofInt_natCast, BitVec.toNat_ofNat]; exact Nat.mod_eq_of_lt (by omega)
  have h2 : (BitVec.ofInt 64 (b : Int)).toNat = b := by
    rw [BitVec.ofInt_natCast, BitVec.toNat_ofNat]; exact Nat.mod_eq_of_lt (by omega)
  show IntKind.i64.wrap ((BitVec.ofInt 64 (a : Int) &&& BitVec.ofInt 64 (b : Int)).toNat : Int) = _
  rw [BitVec.toNat_and, h1, h2, IntKind.wrap_i64]
  omega
theorem uq_le (A n : Nat) : uq A n ≤ A / 2 ^ n + 1 := by
  unfold uq; split
  · omega
  · rw [or_one]; omega
theorem uq_64 {x H s : Nat} (hx : x < 18446744073709551616) (hH : H < 18446744073709551616) (hs : 4 ≤ s) : uq (x * H) (64 + s) ≤ 1152921504606846977 := by
  have h1 := uq_le (x * H) (64 + s)
  have h2 : x * H / 2 ^ (64 + s) < 1152921504606846977 := by
    refine Nat.div_lt_of_lt_mul ?_
    have h3 : x * H < 18446744073709551616 * 18446744073709551616 := Nat.mul_lt_mul'' hx hH
    have h4 : (2 : Nat) ^ 68 ≤ 2 ^ (64 + s) := Nat.pow_le_pow_right (by decide) (by omega)
    exact Nat.lt_of_lt_of_le h3 (Nat.le_trans (by decide) (Nat.mul_le_mul_right _ h4))
  omega
/-- What a float of 53 digits scales to. -/
structure Scaled (m k X lo hi odd s A1 A2 : Nat) : Prop where
  s4 : 4 ≤ s
  s8 : s ≤ 8
  ks : k + 8 = l2 (shortP m k) + s
  lo64 : lo < 18446744073709551616
  hi64 : hi < 18446744073709551616
  lo2 : lo % 2 = 0
  hi2 : hi % 2 = 0
  u1 : uq (lo * tenHi (shortP m k)) (64 + s) ≤ 1152921504606846977
  u2 : uq (hi * tenHi (shortP m k)) (64 + s) ≤ 1152921504606846977
  odd1 : odd ≤ uq (hi * tenHi (shortP m k)) (64 + s)
  a1 : A1 = (uq (lo * tenHi (shortP m k)) (64 + s) + odd + 3) / 4
  a2 : A2 = (uq (hi * tenHi (shortP m k)) (64 + s) - odd) / 4
  le : A1 ≤ 10 * (X * 10 ^ (shortP m k - 7))
  div : A2 / 10 = X * 10 ^ (shortP m k - 7)
theorem scaled_of {m k X lo hi odd : Nat} (hm : 4503599627370496 ≤ m) (hm2 : m < 9007199254740992) (hk0 : 23 ≤ k) (hk : k ≤ 72) (hN : Near m k X) (hodd : odd ≤ 1)
    (hlo : lo = if m = 4503599627370496 then (4 * m - 1) * 512 else (2 * m - 1) * 1024) (hhi : hi = (2 * m + 1) * 1024) : ∃ s A1 A2, Scaled m k X lo hi odd s A1 A2 := by
  obtain ⟨r1, r2, r3, r4⟩ := shortP_range (m := m) hk0 hk
  have hT := (ten_hi r1 r2).2
  have hlo64 : lo < 18446744073709551616 := by rw [hlo]; split <;> omega
  have hhi64 : hi < 18446744073709551616 := by omega
  have hs : k + 8 = l2 (shortP m k) + (k + 8 - l2 (shortP m k)) := by omega
  obtain ⟨g1, g2, g3⟩ := short_all hm hk0 hk hN hodd hlo hhi
  rw [← uq_ten r1 r2 hs] at g1 g2 g3
  exact ⟨k + 8 - l2 (shortP m k), _, _, by omega, by omega, hs, hlo64, hhi64, by rw [hlo]; split <;> omega, by rw [hhi]; omega, uq_64 hlo64 hT (by omega), uq_64 hhi64 hT (by omega), g3, rfl, rfl, g1, g2⟩

set_option maxRecDepth 100000 in
set_option maxHeartbeats 8000000 in
theorem short_any (m k X M64 : Nat) (E : Int) (w : World) (hT : Tabs w) (hM : M64 = m * 2048) (hE : E = -((k : Int) + 11)) (hm : 4503599627370496 ≤ m) (hm2 : m < 9007199254740992) (hk0 : 23 ≤ k) (hk : k ≤ 72) (hN : Near m k X) :
    Calls Tryz.prog 69 #[.int .u64 M64, .int .i64 E] w fun e w' => e = .returned (.tuple #[.int .u64 (X * 10 ^ (shortP m k - 7) : Nat), .int .i64 (-((shortP m k : Int) - 1))]) ∧ Below w.heap.size w w' := by
  obtain ⟨odd, hodd⟩ : ∃ odd, odd = m % 2 := ⟨_, rfl⟩
  have ho1 : odd ≤ 1 := by omega
  obtain ⟨hi, hhi⟩ : ∃ hi, hi = (2 * m + 1) * 1024 := ⟨_, rfl⟩
  have hor : bits BinOp.and .i64 (m : Int) 1 = odd := by
    have h := bits_and_i64_nat m 1 (by omega) (by decide)
    rw [Nat.and_one_is_mod, ← hodd] at h; exact h
  have e1 : E + 11 = -(k : Int) := by omega
  have e2 : (M64 : Int) / 2048 = m := by omega
  have e3 : (M64 : Int) + 1024 = hi := by omega
  have hk1 : -1085 < E := by omega
  have hk2 : E < 0 := by omega
  have hml : (M64 : Int) < 18446744073709551616 := by omega
  have hmi : (m : Int) < 9007199254740992 := by omega
  have HT := Lib.hid hT
  have hlg := log10_any k (by omega)
  have hsk := skewed_any k (by omega)
  by_cases hp : m = 4503599627370496
  · obtain ⟨lo, hlo⟩ : ∃ lo, lo = (4 * m - 1) * 512 := ⟨_, rfl⟩
    obtain ⟨s, A1, A2, hS⟩ := scaled_of (lo := lo) hm hm2 hk0 hk hN ho1 (by rw [if_pos hp]; exact hlo) hhi
    have e4 : (M64 : Int) - 512 = lo := by omega
    have ht : ((M64 : Int) == 9223372036854775808) = true := by rw [beq_iff_eq]; omega
    obtain ⟨r1, r2, r3, r4⟩ := shortP_range (m := m) hk0 hk
    have hpk : shortP m k = pS k := if_pos hp
    rw [← hpk] at hsk
    obtain ⟨p, hpe⟩ : ∃ p, p = shortP m k := ⟨_, rfl⟩
    have hPRE := prescale_any w.heap.size k (shortP m k) s E w hE hk hT rfl r1 r2 hS.ks (by have := hS.s8; omega)
    obtain ⟨H, hH⟩ : ∃ H, H = tenHi (shortP m k) := ⟨_, rfl⟩
    obtain ⟨D, hD⟩ : ∃ D, D = X * 10 ^ (shortP m k - 7) := ⟨_, rfl⟩
    have hHl : H < 18446744073709551616 := by rw [hH]; exact (ten_hi r1 r2).2
    have g1 := hS.u1; have g2 := hS.u2; have g3 := hS.odd1; have g4 := hS.a1; have g5 := hS.a2; have g6 := hS.le; have g7 := hS.div
    rw [← hH] at g1 g2 g3 g4 g5
    rw [← hD] at g6 g7
    rw [← hH, ← hpe] at hPRE
    rw [← hpe] at hsk r1 r2
    rw [← hD, ← hpe]
    have hl2 := log2ten_any p (by omega)
    have HPAT := Lib.hid (show PreAt (w.alloc (.cells #[.int .u64 H, .int .u64 0, .int .i64 s] 153)) w.heap.size H s from ⟨World.cell?_alloc_new w _ _ 0, World.cell?_alloc_new w _ _ 1, World.cell?_alloc_new w _ _ 2⟩)
    have HU1 := Lib.hid (fun W hP => uscale_any lo H s w.heap.size W hP hS.lo64 hS.lo2 hHl hS.s4 hS.s8)
    have HU2 := Lib.hid (fun W hP => uscale_any hi H s w.heap.size W hP hS.hi64 hS.hi2 hHl hS.s4 hS.s8)
    have HBL := Lib.hid (show Below w.heap.size w (w.alloc (.cells #[.int .u64 H, .int .u64 0, .int .i64 s] 153)) from (Below.refl _ _).alloc (Nat.le_refl _) _)
    obtain ⟨U1, hU1⟩ : ∃ U, U = uq (lo * H) (64 + s) := ⟨_, rfl⟩
    obtain ⟨U2, hU2⟩ : ∃ U, U = uq (hi * H) (64 + s) := ⟨_, rfl⟩
    rw [← hU1] at HU1 g1 g4
    rw [← hU2] at HU2 g2 g3 g5
    have HN1 := Lib.hid (fun W => nudge_up U1 odd (by omega) W)
    have HC1 := Lib.hid (show ∀ W, Calls Tryz.prog 100 #[.int .u64 (U1 + odd : Nat)] W fun e w' => e = .returned (.int .u64 A1) ∧ W = w' from fun W => by have h := ceil_any (U1 + odd) (by omega) W; rw [← g4] at h; exact h)
    have HN2 := Lib.hid (fun W => nudge_down U2 odd ho1 g3 (by omega) W)
    have HC2 := Lib.hid (show ∀ W, Calls Tryz.prog 101 #[.int .u64 (U2 - odd : Nat)] W fun e w' => e = .returned (.int .u64 A2) ∧ W = w' from fun W => by have h := floor_any (U2 - odd) (by omega) W; rw [← g5] at h; exact h)
    have k1 : (A2 : Int) / 10 = D := by omega
    have k2 : (D : Int) * 10 < 18446744073709551616 := by omega
    have k3 : decide ((A1 : Int) ≤ D * 10) = true := decide_eq_true (by omega)
    have k4 : (p : Int) ≤ 22 := by omega
    have k7 : (odd : Int) ≤ 1 := by omega
    have k5 : IntKind.u64.wrap (hi : Int) = hi := by have := hS.hi64; rw [IntKind.wrap_u64]; omega
    have k6 : IntKind.u64.wrap (lo : Int) = lo := by have := hS.lo64; rw [IntKind.wrap_u64]; omega
    have HL := Lib.hid hsk; have HL2 := Lib.hid hl2; have HPRE := Lib.hid hPRE
    clear hlo hp hN hhi hodd hM hm hm2 hlg hsk hS hE hT hpk hpe hl2 hPRE hH hD hHl g1 g2 g3 g4 g5 g6 g7 hU1 hU2 r1 r2 r3 r4 ho1 hk0 hk
    go_enter Tryz.func69, Tryz.ntmps69
    go_wp2_with fail
    refine (HL.out _).mono ?_; rintro e _ ⟨rfl, rfl⟩
    go_wp2_with fail
    refine (HL2.out _).mono ?_; rintro e _ ⟨rfl, rfl⟩
    go_wp2_with fail
    refine HPRE.out.mono ?_; rintro e w1 ⟨rfl, hw1⟩
    have P1 : PreAt w1 w.heap.size H s := by rw [hw1]; exact HPAT.out
    have B1 := Lib.hid (show Below w.heap.size w w1 by rw [hw1]; exact HBL.out)
    have P1 := Lib.hid P1
    clear hw1
    go_wp2_with fail
    refine (HU1.out _ P1.out).mono ?_; rintro e w2 ⟨rfl, n1, hw2⟩
    have P2 := Lib.hid (show PreAt w2 w.heap.size H s by rw [hw2]; exact P1.out)
    have B2 := Lib.hid (show Below w.heap.size w w2 by rw [hw2]; exact below_drewN B1.out _)
    clear hw2
    go_wp2_with fail
    refine (HN1.out _).mono ?_; rintro e _ ⟨rfl, rfl⟩
    go_wp2_with fail
    refine (HC1.out _).mono ?_; rintro e _ ⟨rfl, rfl⟩
    go_wp2_with fail
    refine (HU2.out _ P2.out).mono ?_; rintro e w3 ⟨rfl, n2, hw3⟩
    have B3 := Lib.hid (show Below w.heap.size w w3 by rw [hw3]; exact below_drewN B2.out _)
    clear hw3
    go_wp2_with fail
    refine (HN2.out _).mono ?_; rintro e _ ⟨rfl, rfl⟩
    go_wp2_with fail
    refine (HC2.out _).mono ?_; rintro e _ ⟨rfl, rfl⟩
    go_wp2_with fail
    go_ret2
    exact ⟨rfl, B3.out⟩
  · obtain ⟨lo, hlo⟩ : ∃ lo, lo = (2 * m - 1) * 1024 := ⟨_, rfl⟩
    obtain ⟨s, A1, A2, hS⟩ := scaled_of (lo := lo) hm hm2 hk0 hk hN ho1 (by rw [if_neg hp]; exact hlo) hhi
    have e4 : (M64 : Int) - 1024 = lo := by omega
    have ht : ((M64 : Int) == 9223372036854775808) = false := by rw [beq_eq_false_iff_ne]; omega
    obtain ⟨r1, r2, r3, r4⟩ := shortP_range (m := m) hk0 hk
    have hpk : shortP m k = pN k := if_neg hp
    rw [← hpk] at hlg
    obtain ⟨p, hpe⟩ : ∃ p, p = shortP m k := ⟨_, rfl⟩
    have hPRE := prescale_any w.heap.size k (shortP m k) s E w hE hk hT rfl r1 r2 hS.ks (by have := hS.s8; omega)
    obtain ⟨H, hH⟩ : ∃ H, H = tenHi (shortP m k) := ⟨_, rfl⟩
    obtain ⟨D, hD⟩ : ∃ D, D = X * 10 ^ (shortP m k - 7) := ⟨_, rfl⟩
    have hHl : H < 18446744073709551616 := by rw [hH]; exact (ten_hi r1 r2).2
    have g1 := hS.u1; have g2 := hS.u2; have g3 := hS.odd1; have g4 := hS.a1; have g5 := hS.a2; have g6 := hS.le; have g7 := hS.div
    rw [← hH] at g1 g2 g3 g4 g5
    rw [← hD] at g6 g7
    rw [← hH, ← hpe] at hPRE
    rw [← hpe] at hlg r1 r2
    rw [← hD, ← hpe]
    have hl2 := log2ten_any p (by omega)
    have HPAT := Lib.hid (show PreAt (w.alloc (.cells #[.int .u64 H, .int .u64 0, .int .i64 s] 153)) w.heap.size H s from ⟨World.cell?_alloc_new w _ _ 0, World.cell?_alloc_new w _ _ 1, World.cell?_alloc_new w _ _ 2⟩)
    have HU1 := Lib.hid (fun W hP => uscale_any lo H s w.heap.size W hP hS.lo64 hS.lo2 hHl hS.s4 hS.s8)
    have HU2 := Lib.hid (fun W hP => uscale_any hi H s w.heap.size W hP hS.hi64 hS.hi2 hHl hS.s4 hS.s8)
    have HBL := Lib.hid (show Below w.heap.size w (w.alloc (.cells #[.int .u64 H, .int .u64 0, .int .i64 s] 153)) from (Below.refl _ _).alloc (Nat.le_refl _) _)
    obtain ⟨U1, hU1⟩ : ∃ U, U = uq (lo * H) (64 + s) := ⟨_, rfl⟩
    obtain ⟨U2, hU2⟩ : ∃ U, U = uq (hi * H) (64 + s) := ⟨_, rfl⟩
    rw [← hU1] at HU1 g1 g4
    rw [← hU2] at HU2 g2 g3 g5
    have HN1 := Lib.hid (fun W => nudge_up U1 odd (by omega) W)
    have HC1 := Lib.hid (show ∀ W, Calls Tryz.prog 100 #[.int .u64 (U1 + odd : Nat)] W fun e w' => e = .returned (.int .u64 A1) ∧ W = w' from fun W => by have h := ceil_any (U1 + odd) (by omega) W; rw [← g4] at h; exact h)
    have HN2 := Lib.hid (fun W => nudge_down U2 odd ho1 g3 (by omega) W)
    have HC2 := Lib.hid (show ∀ W, Calls Tryz.prog 101 #[.int .u64 (U2 - odd : Nat)] W fun e w' => e = .returned (.int .u64 A2) ∧ W = w' from fun W => by have h := floor_any (U2 - odd) (by omega) W; rw [← g5] at h; exact h)
    have k1 : (A2 : Int) / 10 = D := by omega
    have k2 : (D : Int) * 10 < 18446744073709551616 := by omega
    have k3 : decide ((A1 : Int) ≤ D * 10) = true := decide_eq_true (by omega)
    have k4 : (p : Int) ≤ 22 := by omega
    have k7 : (odd : Int) ≤ 1 := by omega
    have k5 : IntKind.u64.wrap (hi : Int) = hi := by have := hS.hi64; rw [IntKind.wrap_u64]; omega
    have k6 : IntKind.u64.wrap (lo : Int) = lo := by have := hS.lo64; rw [IntKind.wrap_u64]; omega
    have HL := Lib.hid hlg; have HL2 := Lib.hid hl2; have HPRE := Lib.hid hPRE
    clear hlo hp hN hhi hodd hM hm hm2 hlg hsk hS hE hT hpk hpe hl2 hPRE hH hD hHl g1 g2 g3 g4 g5 g6 g7 hU1 hU2 r1 r2 r3 r4 ho1 hk0 hk
    go_enter Tryz.func69, Tryz.ntmps69
    go_upto_region 12 with (fail)
    go_upto_region 17 with (fail)
    have hk3 : (-1085 : Int) ≤ E := by omega
    clear ht hk1
    go_wp2_with fail
    refine (HL.out _).mono ?_; rintro e _ ⟨rfl, rfl⟩
    go_wp2_with fail
    refine (HL2.out _).mono ?_; rintro e _ ⟨rfl, rfl⟩
    go_wp2_with fail
    refine HPRE.out.mono ?_; rintro e w1 ⟨rfl, hw1⟩
    have P1 : PreAt w1 w.heap.size H s := by rw [hw1]; exact HPAT.out
    have B1 := Lib.hid (show Below w.heap.size w w1 by rw [hw1]; exact HBL.out)
    have P1 := Lib.hid P1
    clear hw1
    go_wp2_with fail
    refine (HU1.out _ P1.out).mono ?_; rintro e w2 ⟨rfl, n1, hw2⟩
    have P2 := Lib.hid (show PreAt w2 w.heap.size H s by rw [hw2]; exact P1.out)
    have B2 := Lib.hid (show Below w.heap.size w w2 by rw [hw2]; exact below_drewN B1.out _)
    clear hw2
    go_wp2_with fail
    refine (HN1.out _).mono ?_; rintro e _ ⟨rfl, rfl⟩
    go_wp2_with fail
    refine (HC1.out _).mono ?_; rintro e _ ⟨rfl, rfl⟩
    go_wp2_with fail
    refine (HU2.out _ P2.out).mono ?_; rintro e w3 ⟨rfl, n2, hw3⟩
    have B3 := Lib.hid (show Below w.heap.size w w3 by rw [hw3]; exact below_drewN B2.out _)
    clear hw3
    go_wp2_with fail
    refine (HN2.out _).mono ?_; rintro e _ ⟨rfl, rfl⟩
    go_wp2_with fail
    refine (HC2.out _).mono ?_; rintro e _ ⟨rfl, rfl⟩
    go_wp2_with fail
    go_ret2
    exact ⟨rfl, B3.out⟩
end Go.Proofs.YtaalopiegabghaaGreatDoor
