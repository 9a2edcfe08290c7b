/- Go's digits of a number, laid into an array. -/
import Derived.Test.YtaalopiegabghaaGreatDoorFTab
import Derived.Test.YtaalopiegabghaaGreatDoorFO
import Derived.Lib.ItoaMem
namespace Go.Proofs.YtaalopiegabghaaGreatDoor
open Go.RowKit Go.Lib Go.WideShapes

abbrev bEnc : UInt8 → Value := fun b => Value.int .u8 (b.toNat : Int)
theorem grown_putRow (w : World) (g : Nat) (d : Array UInt8) (n : Nat) : w.grownBy ((Go.Sort.putRow bEnc w g 0 d).drewN n) (some g) := by
  refine ⟨rfl, rfl, rfl, ?_, fun k hk hne => ?_⟩
  · show w.heap.size ≤ (w.heap.modify _ _).size
    rw [Array.size_modify]; exact Nat.le_refl _
  · show (w.heap.modify _ _)[k]? = _
    rw [Array.getElem?_modify, if_neg (fun e => hne (by rw [e]))]

/-- The array of digits, filled. -/
def SetOut (w : World) (gb : Nat) (L : Bs) (q : Int) (e : Ending) (w' : World) : Prop := e = .returned (.tuple #[.int .i64 (L.length + q), .int .i64 (trimZ L).length]) ∧ w.grownBy w' (some gb) ∧ ∀ j c, L[j]? = some c → w'.cell? ⟨gb, j, none⟩ = some (.int .u8 (c.toNat : Nat))

set_option maxRecDepth 100000 in
set_option maxHeartbeats 4000000 in
theorem setdigits_any (w : World) (gb D : Nat) (q : Int) (hc : ∀ j, j < 32 → w.cell? ⟨gb, j, none⟩ = some (.int .u8 0) ∧ w.frozen? ⟨gb, j, none⟩ = false) (hD : D < 18446744073709551616) (hn : nDigits D ≤ 30) (hq : -100 ≤ q ∧ q ≤ 100) :
    Calls Tryz.prog 62 #[.slice (some ⟨gb, 0, none⟩) 32 32, .int .u64 D, .int .i64 q, .int .i64 (nDigits D)] w (SetOut w gb (decDigits D) q) := by
  have hH : Go.Sort.Holds bEnc w gb 0 (Array.replicate (nDigits D) (0 : UInt8)) := fun j hj => by
    have hj' : j < nDigits D := by simpa using hj
    obtain ⟨a, b⟩ := hc j (by omega)
    rw [Nat.zero_add]
    refine ⟨?_, b⟩
    rw [a, getElem!_pos _ j hj]
    simp
  have hfmt := Tryz.internal_strconv_formatBase10 gb 0 32 D (Array.replicate (nDigits D) 0) w hH (by rw [Array.size_replicate]; exact lt_pow_nDigits D) hD (by rw [Array.size_replicate]; omega)
  rw [Array.size_replicate] at hfmt
  have HF := Lib.hid hfmt; have HH := Lib.hid hH
  obtain ⟨L, hL⟩ : ∃ L, L = decDigits D := ⟨_, rfl⟩
  rw [← hL]
  have hlen : L.length = nDigits D := by rw [hL]; exact decDigits_length D
  have HDL := Lib.hid hL
  have HL := Lib.hid hlen
  obtain ⟨q1, q2⟩ := hq
  obtain ⟨n, hn'⟩ : ∃ n, n = nDigits D := ⟨_, rfl⟩
  have HN := Lib.hid hn'
  rw [← hn'] at hn ⊢
  have hni : (n : Int) ≤ 30 := by omega
  have HLn := Lib.hid (show L.length = n by rw [HL.out, ← HN.out])
  clear hfmt hH hlen hc hD hn' hL
  go_enter Tryz.func62, Tryz.ntmps62
  go_wp2_with fail
  rw [HN.out]
  refine HF.out.mono ?_; rintro e w1 ⟨rfl, k, v', dk, hw1, hI⟩
  have HG := Lib.hid (show w.grownBy w1 (some gb) by rw [hw1]; exact grown_putRow w gb dk k)
  have HC : Hid (∀ j c, L[j]? = some c → w1.cell? ⟨gb, j, none⟩ = some (.int .u8 (c.toNat : Nat))) := Lib.hid fun j c hj => by
    rw [HDL.out] at hj
    obtain ⟨hl, he⟩ := List.getElem?_eq_some_iff.1 hj
    have h1 := row_is_numeral hI j hl
    have h2 := Go.Sort.cell?_putRow bEnc w gb 0 _ dk HH.out (by rw [hI.size, Array.size_replicate]) j (by rw [hI.size]; rw [decDigits_length] at hl; exact hl)
    rw [Nat.zero_add] at h2
    rw [hw1, World.cell?_drewN, h2, ← h1, he]
  clear hw1 hI
  rw [← HN.out]
  go_wp2_with fail
  clear HF HH HL
  go_loop [3, 3] (fun v _ => ∃ m : Nat, v = .int .i64 m ∧ m ≤ n ∧ trimZ (L.take m) = trimZ L) (fun v _ => (RowKit.intOf v).toNat)
  case atStart => exact ⟨n, rfl, Nat.le_refl _, by rw [List.take_of_length_le (by rw [HLn.out]; exact Nat.le_refl _)]⟩
  case round =>
    obtain ⟨m, rfl, hm, ht⟩ := hrel
    cases m with
    | zero =>
      have HZ := Lib.hid (show (trimZ L).length = 0 by rw [← ht]; rfl)
      clear ht
      go_wp2_with fail
      go_ret2
      exact ⟨by rw [HZ.out, HLn.out]; rfl, HG.out, HC.out⟩
    | succ m =>
      have hml : m < L.length := by rw [HLn.out]; omega
      have hcell := HC.out m L[m] (List.getElem?_eq_getElem hml)
      rw [List.take_succ_eq_append_getElem hml] at ht
      obtain ⟨c, hc⟩ : ∃ c, c = L[m] := ⟨_, rfl⟩
      rw [← hc] at hcell ht
      have hmi : (m : Int) ≤ 29 := by omega
      clear hc
      by_cases h48 : c = 48
      · subst h48
        rw [trimZ_zero] at ht
        have HT := Lib.hid ht
        clear ht
        have hcell : w1.cell? ⟨gb, m, none⟩ = some (.int .u8 48) := hcell
        go_wp2_with fail
        go_round
        case rel => exact ⟨m, by go_num, by omega, HT.out⟩
        case measure => simp [RowKit.intOf]
      · rw [trimZ_ne _ h48] at ht
        have HT := Lib.hid (show (trimZ L).length = m + 1 by rw [← ht, List.length_append, List.length_take]; simp; omega)
        have hcn : ((c.toNat : Int) == 48) = false := by
          rw [beq_eq_false_iff_ne]; intro e; apply h48
          have : c.toNat = (48 : UInt8).toNat := by show c.toNat = 48; omega
          exact UInt8.toNat_inj.1 this
        clear ht h48
        go_wp2_with fail
        go_ret2
        exact ⟨by rw [HT.out, HLn.out]; rfl, HG.out, HC.out⟩
end Go.Proofs.YtaalopiegabghaaGreatDoor
