/- Whole numbers, with noughts ahead and behind: mathematics. -/
import Derived.Test.YtdlhmcogpmdonaaGreatDoorRWhole
namespace Go.Proofs.YtdlhmcogpmdonaaGreatDoor
open Go.RowKit Go.Lib Go.WideShapes

def nou (i : Nat) : Bs := List.replicate i 48
theorem nou_dg (i : Nat) : ∀ c ∈ nou i, isDg c := fun c hc => by rw [List.eq_of_mem_replicate hc]; unfold isDg; decide
theorem nou_len (i : Nat) : (nou i).length = i := List.length_replicate
def sgI (x : Int) : Bs := if x < 0 then [45] else []
theorem sgI_sgn (x : Int) : Sgn (sgI x) := by unfold sgI; split; exact .inr (.inr rfl); exact .inl rfl
theorem sgB_sgI (x : Int) : sgB (sgI x) = decide (x < 0) := by
  unfold sgI
  by_cases h : x < 0
  · rw [if_pos h, decide_eq_true h]; rfl
  · rw [if_neg h, decide_eq_false h]; rfl
theorem val_nou (i u : Nat) (t : Bs) : val ((nou i ++ decDigits u) ++ t) = val (decDigits u ++ t) := by
  unfold nou; rw [List.append_assoc, val_append, val_zeros]; omega
theorem whole_num {x : Int} {i : Nat} (hx : -1000000 < x ∧ x < 1000000) (hi : i ≤ 3) : numB (wholeT x (nou i)) = some (.fin (decide (x < 0)) (x.natAbs * 1000000)) := by
  have hu : x.natAbs < 1000000 := by omega
  have hl := dec_len hu
  have hp := decDigits_pos x.natAbs
  have ho : (Dcm.mk (nou i ++ decDigits x.natAbs) false []).ok := ⟨fun c hc => (List.mem_append.1 hc).elim (nou_dg i c) (decDigits_dg _ c), (fun c hc => by cases hc), (fun _ => rfl), by show 1 ≤ (nou i ++ decDigits x.natAbs).length + 0; rw [List.length_append]; omega, by show (nou i ++ decDigits x.natAbs).length ≤ 9; rw [List.length_append, nou_len]; omega, Nat.zero_le _⟩
  have h := num_of (sgI x) (sgI_sgn x) ho
  have hm : (Dcm.mk (nou i ++ decDigits x.natAbs) false []).mil = x.natAbs * 1000000 := by
    unfold Dcm.mil Dcm.man
    simp only
    rw [val_nou, List.append_nil, val_decDigits]; rfl
  rw [hm, sgB_sgI] at h
  exact h
theorem whole_num2 {y : Int} {i : Nat} (hy : -1000000 < y ∧ y < 1000000) (hi : i ≤ 3) : numB (wholeT y (nou i) ++ [46, 48, 48, 48]) = some (.fin (decide (y < 0)) (y.natAbs * 1000000)) := by
  have hu : y.natAbs < 1000000 := by omega
  have hl := dec_len hu
  have hp := decDigits_pos y.natAbs
  have ho : (Dcm.mk (nou i ++ decDigits y.natAbs) true [48, 48, 48]).ok := ⟨fun c hc => (List.mem_append.1 hc).elim (nou_dg i c) (decDigits_dg _ c), fun c hc => nou_dg 3 c hc, (fun h => by cases h), by show 1 ≤ (nou i ++ decDigits y.natAbs).length + 3; omega, by show (nou i ++ decDigits y.natAbs).length ≤ 9; rw [List.length_append, nou_len]; omega, (show 3 ≤ 6 by decide)⟩
  have h := num_of (sgI y) (sgI_sgn y) ho
  have hm : (Dcm.mk (nou i ++ decDigits y.natAbs) true [48, 48, 48]).mil = y.natAbs * 1000000 := by
    unfold Dcm.mil Dcm.man
    simp only
    rw [val_nou, val_append, val_decDigits]
    show (y.natAbs * 10 ^ 3 + 0) * 10 ^ 3 = _
    omega
  rw [hm, sgB_sgI] at h
  rw [← h]
  congr 1
  unfold wholeT sgI Dcm.text
  simp only [if_true, List.append_assoc]
theorem key_whole (x : Int) : (Num.fin (decide (x < 0)) (x.natAbs * 1000000)).key = x * 1000000 := by
  by_cases h : x < 0
  · rw [decide_eq_true h]
    show -((x.natAbs * 1000000 : Nat) : Int) = _
    omega
  · rw [decide_eq_false h]
    show ((x.natAbs * 1000000 : Nat) : Int) = _
    omega
theorem cmp_whole (x y : Int) : (Num.fin (decide (x < 0)) (x.natAbs * 1000000)).cmp (.fin (decide (y < 0)) (y.natAbs * 1000000)) = if x < y then -1 else if y < x then 1 else 0 := by
  unfold Num.cmp
  rw [key_whole, key_whole]
  by_cases h : x < y
  · rw [if_pos (by omega), if_pos h]
  · rw [if_neg (by omega), if_neg h]
    by_cases h' : y < x
    · rw [if_pos (by omega), if_pos h']
    · rw [if_neg (by omega), if_neg h']
theorem wholeT_len {x : Int} (hx : -1000000 < x ∧ x < 1000000) {z : Bs} (hz : z.length ≤ 3) : (wholeT x z).length ≤ 10 := by
  have hl := dec_len (u := x.natAbs) (by omega)
  unfold wholeT
  rw [List.length_append, List.length_append]
  split <;> simp <;> omega
end Go.Proofs.YtdlhmcogpmdonaaGreatDoor
