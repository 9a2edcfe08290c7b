/- A name in full, put together part by part: mathematics. -/
import Derived.Test.YtgopajddloeclaaDoorLPWritesM
namespace Go.Proofs.YtgopajddloeclaaDoor
open Go.RowKit Go.Lib Go.WideShapes

/-- What is written of a name when the parts up to f are. -/
def FP (n : Bs) (f : Nat) (F : Bs) : Prop := (f = 0 ∧ F = []) ∨ (∃ a b, n = a ++ 46 :: b ∧ partB a = true ∧ partB b = true ∧ f = a.length + 1 ∧ F = identB a) ∨ (f = n.length + 1 ∧ F = fullB n)

theorem fp_zero {n : Bs} {f k : Nat} {F : Bs} (h : FP n f F) (hf : f ≤ k) (hk : n[k]? = some 46) : f = 0 ∧ F = [] := by
  rcases h with h | ⟨a, b, rfl, _, hb, rfl, _⟩ | ⟨rfl, _⟩
  · exact h
  · exfalso
    rw [List.getElem?_append_right (by omega), show k - a.length = (k - (a.length + 1)) + 1 by omega, List.getElem?_cons_succ] at hk
    exact partB_nodot hb (List.mem_of_getElem? hk)
  · exfalso
    have := (List.getElem?_eq_some_iff.1 hk).1
    omega
theorem fp_dot {n : Bs} {k : Nat} (hg : goodB n = true) (hk : n[k]? = some 46) (h0 : ∀ i, i < k → n[i]? ≠ some 46) : FP n (k + 1) (identB (n.take k)) := by
  have hl := (List.getElem?_eq_some_iff.1 hk).1
  have hn : n = n.take k ++ 46 :: n.drop (k + 1) := by
    conv => lhs; rw [← List.take_append_drop k n, List.drop_eq_getElem_cons hl, (List.getElem?_eq_some_iff.1 hk).2]
  have hd : (46 : UInt8) ∉ n.take k := by
    intro hm
    obtain ⟨i, hi, he⟩ := List.mem_iff_getElem.1 hm
    have hik : i < k := by rw [List.length_take] at hi; omega
    rw [List.getElem_take] at he
    exact h0 i hik (by rw [List.getElem?_eq_getElem (by omega), he])
  have hg2 := hg
  rw [hn, goodB_two hd] at hg2
  simp only [Bool.and_eq_true] at hg2
  exact .inr (.inl ⟨n.take k, n.drop (k + 1), hn, hg2.2.1, hg2.2.2, by rw [List.length_take]; omega, rfl⟩)
theorem fp_end {n : Bs} {f : Nat} {F : Bs} (h : FP n f F) (hf : f ≤ n.length) (h0 : f = 0 → ∀ i, i < n.length → n[i]? ≠ some 46) : (f = 0 ∧ F = [] ∧ identB (n.take n.length) = fullB n) ∨ (0 < f ∧ F ++ 46 :: identB (n.drop f) = fullB n) := by
  rcases h with ⟨rfl, rfl⟩ | ⟨a, b, rfl, ha, hb, rfl, rfl⟩ | ⟨rfl, _⟩
  · left
    refine ⟨rfl, rfl, ?_⟩
    unfold fullB
    rw [if_neg, List.take_length]
    intro hm
    obtain ⟨i, hi, he⟩ := List.mem_iff_getElem.1 hm
    exact h0 rfl i hi (by rw [List.getElem?_eq_getElem hi, he])
  · right
    refine ⟨by omega, ?_⟩
    unfold fullB
    rw [if_pos (by simp), cut_at (partB_nodot ha)]
    congr 3
    rw [← List.drop_drop, List.drop_left' rfl]; rfl
  · omega
end Go.Proofs.YtgopajddloeclaaDoor
