/- Names that are others each; a whole number's form: mathematics. No program is named here. -/
import Derived.Test.YtaalopiegabghaaGreatDoorVP
namespace Go.Proofs.YtaalopiegabghaaGreatDoor
open Go.Lib

theorem dist_iff : ∀ L : List Bs, distB L = true ↔ ∀ (i : Nat) (h : i < L.length), L[i] ∉ L.take i
  | [] => by simp [distB]
  | a :: r => by
    unfold distB
    rw [Bool.and_eq_true, dist_iff r]
    constructor
    · rintro ⟨h1, h2⟩ i hi
      cases i with
      | zero => simp
      | succ i =>
        rw [List.getElem_cons_succ, List.take_succ_cons, List.mem_cons]
        rintro (h | h)
        · have hc : r.contains a = true := by
            rw [List.contains_iff_mem, ← h]; exact List.getElem_mem _
          rw [hc] at h1; exact absurd h1 (by decide)
        · exact h2 i (by simpa using hi) h
    · intro h
      constructor
      · rw [Bool.not_eq_true']
        rw [← Bool.not_eq_true]
        intro hc
        rw [List.contains_iff_mem] at hc
        obtain ⟨j, hj, e⟩ := List.mem_iff_getElem.1 hc
        have := h (j + 1) (by simpa using hj)
        rw [List.getElem_cons_succ, List.take_succ_cons, e] at this
        exact this List.mem_cons_self
      · intro i hi
        have := h (i + 1) (by simpa using hi)
        rw [List.getElem_cons_succ, List.take_succ_cons] at this
        exact fun hm => this (List.mem_cons_of_mem _ hm)
/-- The names so far are names, and others each. -/
def NamesTo (L : List Bs) (k : Nat) : Prop := ∀ (i : Nat) (h : i < L.length), i < k → nameB L[i] = true ∧ L[i] ∉ L.take i
theorem names_all {L : List Bs} : (NamesTo L L.length ↔ (L.all nameB && distB L) = true) := by
  rw [Bool.and_eq_true, dist_iff, List.all_eq_true]
  constructor
  · intro h
    refine ⟨fun x hx => ?_, fun i hi => (h i hi hi).2⟩
    obtain ⟨j, hj, rfl⟩ := List.mem_iff_getElem.1 hx
    exact (h j hj hj).1
  · rintro ⟨h1, h2⟩ i hi _
    exact ⟨h1 _ (List.getElem_mem _), h2 i hi⟩
theorem NamesTo.step {L : List Bs} {k : Nat} (h : NamesTo L k) (hk : k < L.length) (h1 : nameB L[k] = true) (h2 : L[k] ∉ L.take k) : NamesTo L (k + 1) := fun i hi hl => by
  by_cases e : i = k
  · subst e; exact ⟨h1, h2⟩
  · exact h i hi (by omega)
theorem names_bad {L : List Bs} {k : Nat} (hk : k < L.length) (h : nameB L[k] = false ∨ L[k] ∈ L.take k) : (L.all nameB && distB L) = false := by
  rw [← Bool.not_eq_true]
  intro e
  have := names_all.2 e k hk hk
  rcases h with h | h
  · rw [h] at this; exact absurd this.1 (by decide)
  · exact this.2 h
/-- Noughts ahead taken off, but for the last digit. -/
theorem strip_done {T : Bs} (hd : ∀ c ∈ T, isDg c) (h : T.length = 1 ∨ ∃ c l, T = c :: l ∧ c ≠ 48) : T = decDigits (val T) := by
  rcases h with h | ⟨c, l, rfl, h⟩
  · match T, h, hd with
    | [c], _, hd =>
      have hc := hd c List.mem_cons_self
      have hb := dg_back hc
      unfold isDg at hc
      show [c] = decDigits (10 * 0 + (c.toNat - 48))
      rw [Nat.mul_zero, Nat.zero_add, decDigits_lt (by omega), hb]
  · exact ((dec_val _ _ rfl hd (fun x t e => by injection e with e _; subst e; exact h) (Nat.zero_lt_succ _)).2).symm
theorem val_nought (l : Bs) : val (48 :: l) = val l := by
  have := val_append [48] l
  rw [show val [48] = 0 from rfl, Nat.zero_mul, Nat.zero_add] at this
  exact this
theorem intB_none_of {l : Bs} (h : ¬ (1 ≤ (restOf l).length ∧ (restOf l).length ≤ 9 ∧ allD (restOf l) = true)) : intB l = none := by
  unfold intB; rw [if_neg h]
theorem intB_some_of {l : Bs} (h : 1 ≤ (restOf l).length ∧ (restOf l).length ≤ 9 ∧ allD (restOf l) = true) : intB l = some (if sgB (sgnOf l) = true then -(val (restOf l) : Int) else val (restOf l)) := by
  unfold intB; rw [if_pos h]
end Go.Proofs.YtaalopiegabghaaGreatDoor
