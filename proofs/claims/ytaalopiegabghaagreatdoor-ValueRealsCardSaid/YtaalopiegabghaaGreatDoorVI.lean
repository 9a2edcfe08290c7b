/- Whole numbers as reals: mathematics. No program is named here. -/
import Derived.Test.YtaalopiegabghaaGreatDoorVN
import Derived.Test.YtaalopiegabghaaGreatDoorROrdM
namespace Go.Proofs.YtaalopiegabghaaGreatDoor
open Go.Lib

theorem intB_ok {l : Bs} {n : Int} (h : intB l = some n) : (1 ≤ (restOf l).length ∧ (restOf l).length ≤ 9 ∧ allD (restOf l) = true) ∧ n = (if sgB (sgnOf l) = true then -(val (restOf l) : Int) else val (restOf l)) := by
  unfold intB at h
  split at h
  · rename_i hc; cases h; exact ⟨hc, rfl⟩
  · cases h
/-- A whole number is a real. -/
theorem int_num {l : Bs} {n : Int} (h : intB l = some n) : numB l = some (.fin (sgB (sgnOf l)) (n.natAbs * 1000000)) := by
  obtain ⟨⟨h1, h2, h3⟩, h4⟩ := intB_ok h
  have ho : (Dcm.mk (restOf l) false []).ok := ⟨allD_iff.1 h3, (fun c hc => by cases hc), (fun _ => rfl), (show 1 ≤ (restOf l).length + 0 from h1), h2, Nat.zero_le _⟩
  have hn := num_of (sgnOf l) (sgn_of l) ho
  have ht : (Dcm.mk (restOf l) false []).text = restOf l := rfl
  rw [ht, sgn_rest] at hn
  rw [hn]
  have hm : (Dcm.mk (restOf l) false []).mil = val (restOf l) * 1000000 := by
    unfold Dcm.mil Dcm.man
    simp only
    rw [List.append_nil]; rfl
  rw [hm]
  have : n.natAbs = val (restOf l) := by rw [h4]; split <;> omega
  rw [this]
/-- Its form, as a real. -/
theorem canon_int (s : Bool) (u : Nat) : canonB (.fin s (u * 1000000)) = (if s = true then [45] else []) ++ decDigits u := by
  show milText s (u * 1000000) = _
  rw [milText_eq, ← cdm_text]
  congr 1
  unfold Dcm.text cdm
  have h1 : u * 1000000 / 1000000 = u := by omega
  have h2 : u * 1000000 % 1000000 = 0 := by omega
  simp only [h1, h2]
  have h3 : trimZ (pad 6 0) = [] := by decide
  rw [h3]
  simp
theorem sgn_itoa (n : Int) : sgnOf (itoa n) = (if n < 0 then [45] else []) := by
  rw [itoa_eq]
  by_cases h0 : n < 0
  · rw [if_pos h0]; rfl
  · rw [if_neg h0, List.nil_append]
    have hpos := decDigits_pos n.natAbs
    cases he : decDigits n.natAbs with
    | nil => rw [he] at hpos; cases hpos
    | cons c l =>
      have hc := decDigits_dg n.natAbs c (by rw [he]; exact List.mem_cons_self)
      have h43 : c ≠ 43 := by rintro rfl; exact absurd hc (by unfold isDg; decide)
      have h45 : c ≠ 45 := by rintro rfl; exact absurd hc (by unfold isDg; decide)
      rw [sgn_cons, if_neg (by simp [h43, h45])]
theorem num_itoa {n : Int} (h : -1000000000 < n ∧ n < 1000000000) : numB (itoa n) = some (.fin (decide (n < 0)) (n.natAbs * 1000000)) := by
  rw [int_num (intB_itoa h), sgn_itoa n]
  by_cases h0 : n < 0
  · rw [if_pos h0, decide_eq_true h0]; rfl
  · rw [if_neg h0, decide_eq_false h0]; rfl
theorem canon_itoa {n : Int} (h : -1000000000 < n ∧ n < 1000000000) : cS (itoa n) = itoa n ∧ cE (itoa n) = 0 := by
  have hn := num_itoa h
  refine ⟨?_, cE_num hn⟩
  rw [cS_num hn, canon_int, itoa_eq]
  by_cases h0 : n < 0
  · rw [if_pos h0, decide_eq_true h0]; rfl
  · rw [if_neg h0, decide_eq_false h0]; rfl
theorem key_int {l : Bs} {n : Int} (h : intB l = some n) : (Num.fin (sgB (sgnOf l)) (n.natAbs * 1000000)).key = n * 1000000 := by
  obtain ⟨_, h4⟩ := intB_ok h
  cases hs : sgB (sgnOf l) with
  | true =>
    rw [hs, if_pos rfl] at h4
    show -((n.natAbs * 1000000 : Nat) : Int) = _
    omega
  | false =>
    rw [hs, if_neg (by decide)] at h4
    show ((n.natAbs * 1000000 : Nat) : Int) = _
    omega
theorem zC_int {l r : Bs} {n m : Int} (h : intB l = some n) (h' : intB r = some m) : zC l r = if n < m then -1 else if m < n then 1 else 0 := by
  rw [zC_of (int_num h) (int_num h')]
  unfold Num.cmp
  rw [key_int h, key_int h']
  by_cases h1 : n < m
  · rw [if_pos (by omega), if_pos h1]
  · rw [if_neg (by omega), if_neg h1]
    by_cases h2 : m < n
    · rw [if_pos (by omega), if_pos h2]
    · rw [if_neg (by omega), if_neg h2]
end Go.Proofs.YtaalopiegabghaaGreatDoor
