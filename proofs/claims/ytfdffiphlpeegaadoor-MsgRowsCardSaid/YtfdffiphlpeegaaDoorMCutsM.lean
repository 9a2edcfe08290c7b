/- What MsgCuts wants of the mathematics and of memory. -/
import Derived.Test.YtfdffiphlpeegaaDoorDCard
import Derived.Test.YtfdffiphlpeegaaDoorDSum
import Derived.Test.YtfdffiphlpeegaaDoorDEncX
namespace Go.Proofs.YtfdffiphlpeegaaDoor
open Go.RowKit Go.Lib Go.WideShapes

theorem encE_cases (r : Option Bs) : encE r = 0 ∨ encE r = 1 ∨ encE r = 3 := by
  cases r with
  | none => exact .inr (.inl rfl)
  | some B =>
    by_cases h : 10000 < B.length
    · exact .inr (.inr (if_pos h))
    · exact .inl (if_neg h)
theorem readD_readL {back : Bool} {c : UInt8} {S : Bs} {p : List Bs × List Int} (h : readD back c S = some p) : readL back c S = some p := by
  unfold readD at h
  split at h
  · cases h
  · exact h
theorem cut_same {back : Bool} {c : UInt8} {T T2 : List Bs} {N N2 : List Int} {B : Bs} {K : Nat} (h : written back c T N = some B) (hr : readD back c (B.take K) = some (T2, N2)) (hK : K ≤ B.length) : sameB c T2 N2 c T N = decide (K = B.length) := by
  have h2 := written_of_read (readD_readL hr)
  by_cases he : K = B.length
  · rw [decide_eq_true he]
    rw [he, List.take_length] at h2
    obtain ⟨e1, e2⟩ := written_inj h2 h
    exact decide_eq_true ⟨rfl, e1, e2⟩
  · rw [decide_eq_false he]
    apply decide_eq_false
    rintro ⟨-, rfl, rfl⟩
    have e := Option.some.inj (h2.symm.trans h)
    have hl := congrArg List.length e
    rw [List.length_take] at hl
    omega
/-- What stands behind the first Decode. -/
def CutAt (w4 : World) (c : Int) (r : Option (List Bs × List Int)) (s12 s13 : Value) (wx : World) : Prop :=
  ∃ g : Nat, s12 = .pointer (some ⟨g, 0, none⟩) ∧ Below w4.heap.size w4 wx ∧ (match r with
    | none => s13 = .int .i64 2
    | some p => s13 = .int .i64 0 ∧ g < wx.heap.size ∧ ∃ (ta : Option Addr) (tc : Nat) (na : Option Addr) (nc : Nat), wx.cell? ⟨g, 0, none⟩ = some (.int .u8 c) ∧ wx.cell? ⟨g, 1, none⟩ = some (.slice ta p.1.length tc) ∧ wx.cell? ⟨g, 2, none⟩ = some (.slice na p.2.length nc) ∧ TextsIn wx (.slice ta p.1.length tc) p.1 ∧ NumsIn wx (.slice na p.2.length nc) p.2)
theorem cut_before {w4 w5 : World} {A : Array Value} {T : TypeId} (hb : Below (w4.alloc (.cells A T)).drew.heap.size (w4.alloc (.cells A T)).drew w5) :
    Below w4.heap.size w4 w5 ∧ (∀ i : Nat, w5.cell? ⟨w4.heap.size, i, none⟩ = A[i]?) ∧ (∀ i : Nat, w5.frozen? ⟨w4.heap.size, i, none⟩ = false) ∧ w4.heap.size < w5.heap.size := by
  have h1 : Below (w4.alloc (.cells A T)).heap.size (w4.alloc (.cells A T)) w5 := (Below.refl _ (w4.alloc (.cells A T))).drew.step hb (by simp)
  obtain ⟨h2, h3, h4⟩ := one_box h1
  exact ⟨((Below.refl _ _).alloc (Nat.le_refl _) _).step h1 (by simp), h2, h3, h4⟩
theorem cut_old {w4 w5 : World} {c : Int} {T : List Bs} {N : List Int} {ta na : Option Addr} {tc nc : Nat} (hB : Below w4.heap.size w4 w5) (hT : TextsIn w5 (.slice ta T.length tc) T) (hN : NumsIn w5 (.slice na N.length nc) N) :
    CutAt w4 c (some (T, N)) (.pointer (some ⟨w5.heap.size, 0, none⟩)) (.int .i64 0) (w5.alloc (.cells #[.int .u8 c, .slice ta T.length tc, .slice na N.length nc] 28)) :=
  have hb := (Below.refl w5.heap.size w5).alloc (Nat.le_refl _) (.cells #[.int .u8 c, .slice ta T.length tc, .slice na N.length nc] 28)
  ⟨_, rfl, hB.alloc hB.size _, rfl, by simp, ta, tc, na, nc, World.cell?_alloc_new _ _ _ _, World.cell?_alloc_new _ _ _ _, World.cell?_alloc_new _ _ _ _, hT.mono hb, hN.mono hb⟩
theorem cut_new {w4 w5 : World} {c : Int} {T : List Bs} {N : List Int} {ta na : Option Addr} {tc nc : Nat} (hB : Below w4.heap.size w4 w5) (x0 : ∀ i : Nat, w5.cell? ⟨w4.heap.size, i, none⟩ = (#[.int .u8 0, .slice none 0 0, .slice none 0 0] : Array Value)[i]?) (hz : w4.heap.size < w5.heap.size)
    (hT : w5.ownsRow (w4.heap.size + 1) 9 1 (.slice ta T.length tc) T.length (tcells T)) (hN : w5.ownsRow (w4.heap.size + 1) 3 1 (.slice na N.length nc) N.length (ncells N)) :
    CutAt w4 c (some (T, N)) (.pointer (some ⟨w4.heap.size, 0, none⟩)) (.int .i64 0) (((w5.setCell ⟨w4.heap.size, 0, none⟩ (.int .u8 c)).setCell ⟨w4.heap.size, 1, none⟩ (.slice ta T.length tc)).setCell ⟨w4.heap.size, 2, none⟩ (.slice na N.length nc)) := by
  have y0 := x0 0; have y1 := x0 1; have y2 := x0 2
  refine ⟨_, rfl, ((hB.setCell (Nat.le_refl _) _).setCell (Nat.le_refl _) _).setCell (Nat.le_refl _) _, rfl, by simpa using hz, ta, tc, na, nc, ?_, ?_, ?_, own_textsIn (own_three hT _ (by omega) _ _ _), own_numsIn (own_three hN _ (by omega) _ _ _)⟩
  all_goals simp [go_sem, y0, y1, y2]
end Go.Proofs.YtfdffiphlpeegaaDoor
