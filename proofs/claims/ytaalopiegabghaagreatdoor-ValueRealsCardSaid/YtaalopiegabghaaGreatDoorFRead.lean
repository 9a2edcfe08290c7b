/- Go's reader of numbers, at digits with or without a point. -/
import Derived.Test.YtaalopiegabghaaGreatDoorFV
import Derived.Test.YtaalopiegabghaaGreatDoorPb
import Derived.Deep.DeepCutAuto
import Derived.WalkMore
namespace Go.Proofs.YtaalopiegabghaaGreatDoor
open Go.RowKit Go.Lib Go.WideShapes

theorem text_at {s : ByteArray} {l : Bs} {k : Nat} {c : UInt8} (h : bytes s = l) (hc : l[k]? = some c) : ∃ hk : k < s.size, (s[k]'hk).toNat = c.toNat := by
  subst h
  obtain ⟨hk, he⟩ := List.getElem?_eq_some_iff.1 hc
  refine ⟨by rw [bytes_len] at hk; exact hk, ?_⟩
  rw [← he]; rfl

theorem or_32 (c : Nat) (hc : 48 ≤ c ∧ c ≤ 57 ∨ c = 46) : bits BinOp.or .u8 (c : Int) 32 = c := by
  rcases (by omega : c = 46 ∨ c = 48 ∨ c = 49 ∨ c = 50 ∨ c = 51 ∨ c = 52 ∨ c = 53 ∨ c = 54 ∨ c = 55 ∨ c = 56 ∨ c = 57) with rfl | rfl | rfl | rfl | rfl | rfl | rfl | rfl | rfl | rfl | rfl <;> decide
theorem lower_dg (c : Nat) (hc : 48 ≤ c ∧ c ≤ 57 ∨ c = 46) (w : World) : Calls Tryz.prog 94 #[.int .u8 c] w fun e w' => e = .returned (.int .u8 c) ∧ w = w' := by
  have HO := Lib.hid (or_32 c hc)
  clear hc
  go_enter Tryz.func94, Tryz.ntmps94
  go_wp2_with fail
  go_ret
  refine ⟨?_, rfl⟩
  show Ending.returned (.int .u8 (bits BinOp.or .u8 (c : Int) 32)) = _
  rw [HO.out]

/-- A sign ahead. -/
def Sgn (l : Bs) : Prop := l = [] ∨ l = [43] ∨ l = [45]
theorem Sgn.one {l : Bs} (h : Sgn l) : l.length ≤ 1 := by rcases h with rfl | rfl | rfl <;> decide
def sgB (l : Bs) : Bool := l == [45]

/-- Each byte of a number is a digit, or the point. -/
theorem Dcm.ok.byte {d : Dcm} (h : d.ok) {c : UInt8} (hc : c ∈ d.text) : 48 ≤ c.toNat ∧ c.toNat ≤ 57 ∨ c.toNat = 46 := by
  unfold Dcm.text at hc
  split at hc
  · rcases List.mem_append.1 hc with h1 | h1
    · exact .inl (h.dw c h1)
    · rcases List.mem_cons.1 h1 with rfl | h1
      · exact .inr rfl
      · exact .inl (h.dp c h1)
  · exact .inl (h.dw c hc)
theorem Dcm.ok.pos {d : Dcm} (h : d.ok) : 0 < d.text.length := by
  rw [d.text_length h]; have := h.some
  by_cases hd : d.dot = true
  · rw [if_pos hd]; omega
  · rw [if_neg hd]; omega
theorem Dcm.ok.short {d : Dcm} (h : d.ok) : d.text.length ≤ 16 := by
  rw [d.text_length h]; have := h.w9; have := h.p6
  split <;> omega

end Go.Proofs.YtaalopiegabghaaGreatDoor
