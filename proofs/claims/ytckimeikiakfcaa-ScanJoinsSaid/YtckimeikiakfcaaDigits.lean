/- A law's own digits. -/
import Derived.Test.YtckimeikiakfcaaShown
namespace Go.Proofs.Ytckimeikiakfcaa
open Go.RowKit Go.Lib Go.WideShapes

/-- Digits. -/
def Dec (t : Bs) : Prop := t ≠ [] ∧ t.length ≤ 19 ∧ ∀ c ∈ t, dg c = true

theorem str_append (a b : Bs) : (⟨a.toArray⟩ : ByteArray) ++ ⟨b.toArray⟩ = ⟨(a ++ b).toArray⟩ := by
  apply ByteArray.ext
  rw [ByteArray.data_append]
  simp

theorem digit_str (d : Nat) (h : d < 10) (t : Bs) : ({ data := #[48, 49, 50, 51, 52, 53, 54, 55, 56, 57] } : ByteArray).extract d (d + 1) ++ ⟨t.toArray⟩ = ⟨(UInt8.ofNat (48 + d) :: t).toArray⟩ := by
  rw [extract_eq, str_append]
  have : ((bytes { data := #[48, 49, 50, 51, 52, 53, 54, 55, 56, 57] }).drop d).take (d + 1 - d) = [UInt8.ofNat (48 + d)] := by
    rcases (by omega : d = 0 ∨ d = 1 ∨ d = 2 ∨ d = 3 ∨ d = 4 ∨ d = 5 ∨ d = 6 ∨ d = 7 ∨ d = 8 ∨ d = 9) with rfl | rfl | rfl | rfl | rfl | rfl | rfl | rfl | rfl | rfl <;> rfl
  rw [this]; rfl

theorem digit_dg (d : Nat) (h : d < 10) : dg (UInt8.ofNat (48 + d)) = true := by
  rcases (by omega : d = 0 ∨ d = 1 ∨ d = 2 ∨ d = 3 ∨ d = 4 ∨ d = 5 ∨ d = 6 ∨ d = 7 ∨ d = 8 ∨ d = 9) with rfl | rfl | rfl | rfl | rfl | rfl | rfl | rfl | rfl | rfl <;> rfl

set_option maxHeartbeats 2000000 in
theorem digits_any (n : Int) (w : World) (hn : -9223372036854775808 ≤ n ∧ n ≤ 9223372036854775807) :
    Calls Try.prog 9 #[.int .i64 n] w fun e w' => ∃ t : Bs, e = .returned (.string ⟨t.toArray⟩) ∧ Dec t ∧ w = w' := by
  by_cases h : n < 0
  · go_enter Try.func9, Try.ntmps9
    go_wp2_with fail
    go_loopg [0, 3] ((-(n + 1)).toNat + 1) (fun g a b wr => ∃ (z : Nat) (t : Bs), g = z + (if t = [] then 1 else 0) ∧ a = .int .i64 z ∧ b = .string ⟨t.toArray⟩ ∧ t.length ≤ 19 ∧ z < 10 ^ (19 - t.length) ∧ (z : Int) ≤ 9223372036854775807 ∧ (∀ c ∈ t, dg c = true) ∧ wr = w)
    case atStart => exact ⟨(-(n + 1)).toNat, [], rfl, by congr 1; omega, rfl, by simp, by simp; omega, by omega, by simp, rfl⟩
    case round =>
      obtain ⟨z, t, hg, rfl, rfl, ht, hz, hzm, hd, rfl⟩ := hrel
      have HG := Lib.hid hg; have HZ := Lib.hid hz; have HD := Lib.hid hd
      have hmod : z % 10 < 10 := Nat.mod_lt _ (by omega)
      have HN := Lib.hid (show ∀ hx : 0 < z ∨ t = [], (UInt8.ofNat (48 + z % 10) :: t).length ≤ 19 ∧ z / 10 < 10 ^ (19 - (UInt8.ofNat (48 + z % 10) :: t).length) ∧ ∀ c ∈ (UInt8.ofNat (48 + z % 10) :: t), dg c = true by
        intro hx
        rw [List.length_cons]
        have hl : t.length ≤ 18 := by
          rcases Nat.lt_or_ge t.length 19 with h | h
          · omega
          · rcases hx with h0 | h0
            · rw [show 19 - t.length = 0 by omega] at hz; omega
            · rw [h0] at h; simp at h
        refine ⟨by omega, ?_, ?_⟩
        · rw [show 19 - t.length = 19 - (t.length + 1) + 1 by omega, Nat.pow_succ] at hz
          omega
        · intro c hc
          rcases List.mem_cons.1 hc with rfl | hc
          · exact digit_dg _ hmod
          · exact hd c hc)
      have HS := Lib.hid (digit_str (z % 10) hmod t)
      have q1 : (0 : Int) ≤ (z : Int) % 10 := by omega
      have q2 : (z : Int) % 10 < 10 := by omega
      clear hg hz hd
      by_cases hz0 : 0 < z
      · have hz1 : (0 : Int) < z := by omega
        go_wp2_with fail
        go_roundg (z / 10)
        case measure => have := HG.out; first | omega | (split at this <;> omega)
        case rel =>
          obtain ⟨b1, b2, b3⟩ := HN.out (.inl hz0)
          exact ⟨z / 10, _, by rw [if_neg (by simp)]; rfl, by first | rfl | (congr 1; omega), by rw [HS.out], b1, b2, by omega, b3, rfl⟩
      · obtain rfl : z = 0 := by omega
        cases t with
        | nil =>
          go_wp2_with fail
          go_roundg 0
          case measure => have := HG.out; simp at this; omega
          case rel =>
            obtain ⟨b1, b2, b3⟩ := HN.out (.inr (by simp))
            exact ⟨0, _, rfl, rfl, by rw [show (0 : Nat) = 0 % 10 from rfl, ← HS.out], b1, b2, by omega, b3, rfl⟩
        | cons c t =>
          go_wp2_with fail
          go_ret
          exact ⟨c :: t, rfl, ⟨by simp, ht, HD.out⟩, rfl⟩
  · go_enter Try.func9, Try.ntmps9
    go_wp2_with fail
    go_loopg [0, 3] (n.toNat + 1) (fun g a b wr => ∃ (z : Nat) (t : Bs), g = z + (if t = [] then 1 else 0) ∧ a = .int .i64 z ∧ b = .string ⟨t.toArray⟩ ∧ t.length ≤ 19 ∧ z < 10 ^ (19 - t.length) ∧ (z : Int) ≤ 9223372036854775807 ∧ (∀ c ∈ t, dg c = true) ∧ wr = w)
    case atStart => exact ⟨n.toNat, [], rfl, by congr 1; omega, rfl, by simp, by simp; omega, by omega, by simp, rfl⟩
    case round =>
      obtain ⟨z, t, hg, rfl, rfl, ht, hz, hzm, hd, rfl⟩ := hrel
      have HG := Lib.hid hg; have HZ := Lib.hid hz; have HD := Lib.hid hd
      have hmod : z % 10 < 10 := Nat.mod_lt _ (by omega)
      have HN := Lib.hid (show ∀ hx : 0 < z ∨ t = [], (UInt8.ofNat (48 + z % 10) :: t).length ≤ 19 ∧ z / 10 < 10 ^ (19 - (UInt8.ofNat (48 + z % 10) :: t).length) ∧ ∀ c ∈ (UInt8.ofNat (48 + z % 10) :: t), dg c = true by
        intro hx
        rw [List.length_cons]
        have hl : t.length ≤ 18 := by
          rcases Nat.lt_or_ge t.length 19 with h | h
          · omega
          · rcases hx with h0 | h0
            · rw [show 19 - t.length = 0 by omega] at hz; omega
            · rw [h0] at h; simp at h
        refine ⟨by omega, ?_, ?_⟩
        · rw [show 19 - t.length = 19 - (t.length + 1) + 1 by omega, Nat.pow_succ] at hz
          omega
        · intro c hc
          rcases List.mem_cons.1 hc with rfl | hc
          · exact digit_dg _ hmod
          · exact hd c hc)
      have HS := Lib.hid (digit_str (z % 10) hmod t)
      have q1 : (0 : Int) ≤ (z : Int) % 10 := by omega
      have q2 : (z : Int) % 10 < 10 := by omega
      clear hg hz hd
      by_cases hz0 : 0 < z
      · have hz1 : (0 : Int) < z := by omega
        go_wp2_with fail
        go_roundg (z / 10)
        case measure => have := HG.out; first | omega | (split at this <;> omega)
        case rel =>
          obtain ⟨b1, b2, b3⟩ := HN.out (.inl hz0)
          exact ⟨z / 10, _, by rw [if_neg (by simp)]; rfl, by first | rfl | (congr 1; omega), by rw [HS.out], b1, b2, by omega, b3, rfl⟩
      · obtain rfl : z = 0 := by omega
        cases t with
        | nil =>
          go_wp2_with fail
          go_roundg 0
          case measure => have := HG.out; simp at this; omega
          case rel =>
            obtain ⟨b1, b2, b3⟩ := HN.out (.inr (by simp))
            exact ⟨0, _, rfl, rfl, by rw [show (0 : Nat) = 0 % 10 from rfl, ← HS.out], b1, b2, by omega, b3, rfl⟩
        | cons c t =>
          go_wp2_with fail
          go_ret
          exact ⟨c :: t, rfl, ⟨by simp, ht, HD.out⟩, rfl⟩
end Go.Proofs.Ytckimeikiakfcaa
