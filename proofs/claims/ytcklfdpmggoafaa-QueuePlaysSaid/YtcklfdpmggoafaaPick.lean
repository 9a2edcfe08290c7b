/- Which of n things a raw number speaks of. -/
import Derived.Test.YtcklfdpmggoafaaFrame
import Derived.WalkKit
import Derived.Lib.Hide
namespace Go.Proofs.Ytcklfdpmggoafaa
open Go.RowKit

def pk (c : Int) (n : Nat) : Nat := ((if c < 0 then -(c + 1) else c) % n).toNat

theorem pk_lt (c : Int) (n : Nat) (h : 0 < n) : pk c n < n := by
  unfold pk
  have h1 := Int.emod_lt_of_pos (if c < 0 then -(c + 1) else c) (show (0 : Int) < n by omega)
  have h2 := Int.emod_nonneg (if c < 0 then -(c + 1) else c) (show (n : Int) ≠ 0 by omega)
  omega

theorem pk_int (c : Int) (n : Nat) (h : 0 < n) : ((pk c n : Nat) : Int) = (if c < 0 then -(c + 1) else c) % n := by
  unfold pk
  have h2 := Int.emod_nonneg (if c < 0 then -(c + 1) else c) (show (n : Int) ≠ 0 by omega)
  omega

theorem pick_any (c : Int) (n : Nat) (w : World) (hn : 0 < n) (hn2 : n ≤ 9223372036854775807) (hc : -9223372036854775808 ≤ c ∧ c ≤ 9223372036854775807) :
    Calls Try.prog 12 #[.int .i64 c, .int .i64 n] w fun e w' => e = .returned (.int .i64 (pk c n : Nat)) ∧ w = w' := by
  have hk := pk_int c n hn
  by_cases h : c < 0
  · have e : -((c + 1).tmod n) = -(c + 1) % n := by rw [← Int.neg_tmod, Int.tmod_eq_emod_of_nonneg (by omega)]
    rw [if_pos h, ← e] at hk
    have HK := Lib.hid hk
    clear hk e
    go_enter Try.func12, Try.ntmps12
    go_wp2
    go_ret
    rw [HK.out]
    exact ⟨rfl, rfl⟩
  · rw [if_neg h] at hk
    have HK := Lib.hid hk
    clear hk
    go_enter Try.func12, Try.ntmps12
    go_wp2
    go_ret
    rw [HK.out]
    exact ⟨rfl, rfl⟩
end Go.Proofs.Ytcklfdpmggoafaa
