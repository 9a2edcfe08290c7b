/- What an int takes a real takes: mathematics. No program is named here. -/
import Derived.Test.YtaalopiegabghaaGreatDoorVDec
namespace Go.Proofs.YtaalopiegabghaaGreatDoor
open Go.Lib

theorem low_zero {c : UInt8} (h : c = 0) : low c = 0 := by subst h; decide
theorem sgn_clean (l : Bs) : (0 : UInt8) ∉ sgnOf l := by
  cases l with
  | nil => intro h; cases h
  | cons c l =>
    rw [sgn_cons]
    split
    · rename_i h
      intro h2
      rw [List.mem_singleton] at h2
      subst h2
      exact absurd h (by decide)
    · intro h; cases h
theorem num_clean {l : Bs} {n : Num} (h : numB l = some n) : (0 : UInt8) ∉ l := by
  intro hm
  have hz : (0 : UInt8) ∈ l.map low := List.mem_map.2 ⟨0, hm, low_zero rfl⟩
  unfold numB at h
  generalize l.map low = r at h hz
  rw [← sgn_rest r, List.mem_append] at hz
  have hz' := hz.resolve_left (sgn_clean r)
  unfold numOf at h
  split at h
  · rename_i e; rw [e] at hz'; exact absurd hz' (by decide)
  · split at h
    · rename_i e
      rcases e with e | e <;> (rw [e] at hz'; exact absurd hz' (by decide))
    · split at h
      · rename_i e
        have ho := dec_ok e
        rw [← dot_text (restOf r)] at hz'
        unfold Dcm.text at hz'
        have hd : ∀ L : Bs, (∀ c ∈ L, isDg c) → (0 : UInt8) ∉ L := fun L hL h0 => absurd (hL 0 h0) (by unfold isDg; decide)
        split at hz'
        · rw [List.mem_append, List.mem_cons] at hz'
          rcases hz' with h1 | h1 | h1
          · exact hd _ ho.dw h1
          · exact absurd h1 (by decide)
          · exact hd _ ho.dp h1
        · exact hd _ ho.dw hz'
      · cases h
theorem text_of_num {l : Bs} {n : Num} (h : numB l = some n) : textF l = some l := by
  unfold textF
  rw [if_neg]
  have := num_clean h
  simpa using this
/-- Bounds that are ints are right for reals. -/
theorem real_right {a b : Int} (ha : -1000000000 < a ∧ a < 1000000000) (hb : -1000000000 < b ∧ b < 1000000000) (hab : a ≤ b) : realR (itoa a) (itoa b) = true := by
  have ca := canon_itoa ha; have cb := canon_itoa hb
  unfold realR ownB
  rw [ca.1, ca.2, cb.1, cb.2, zC_int (intB_itoa ha) (intB_itoa hb)]
  have : (if a < b then (-1 : Int) else if b < a then 1 else 0) ≤ 0 := by split <;> (try split) <;> omega
  rw [decide_eq_true this]
  simp
theorem itoa_abs (k : Int) : itoa k = (if k < 0 then [45] else []) ++ decDigits k.natAbs := itoa_eq k
/-- What an int takes. -/
theorem int_real {a b k : Int} {s : Bs} (ha : -1000000000 < a ∧ a < 1000000000) (hb : -1000000000 < b ∧ b < 1000000000) (h : intF (itoa a) (itoa b) s = some (itoa k)) (hk : intB s = some k) :
    realF (itoa a) (itoa b) s = some (cS s) ∧ zC (itoa k) (cS s) = 0 ∧ zE (itoa k) (cS s) = 0 ∧ (itoa k = cS s ∨ cS s = [45, 48]) := by
  have hkr := intB_range hk
  have hn := int_num hk
  have hin : a ≤ k ∧ k ≤ b := by
    rw [intF_out, hk, intB_itoa ha, intB_itoa hb] at h
    simp only at h
    split at h
    · assumption
    · cases h
  have hkk := num_itoa hkr
  have hcs := num_cS hn
  refine ⟨?_, ?_, zE_of hkk hcs, ?_⟩
  · unfold realF bB
    rw [hn, num_itoa ha, num_itoa hb, zC_int hk (intB_itoa ha), zC_int hk (intB_itoa hb)]
    have h1 : (0 : Int) ≤ (if k < a then (-1 : Int) else if a < k then 1 else 0) := by split <;> (try split) <;> omega
    have h2 : (if k < b then (-1 : Int) else if b < k then 1 else 0) ≤ 0 := by split <;> (try split) <;> omega
    rw [decide_eq_true h1, decide_eq_true h2]
    rfl
  · rw [zC_of hkk hcs]
    unfold Num.cmp
    have h1 := key_int hk
    have h2 := key_int (intB_itoa hkr)
    have h3 : sgB (sgnOf (itoa k)) = decide (k < 0) := by
      rw [sgn_itoa]
      by_cases h0 : k < 0
      · rw [if_pos h0, decide_eq_true h0]; rfl
      · rw [if_neg h0, decide_eq_false h0]; rfl
    rw [h3] at h2
    rw [h1, h2, if_neg (by omega), if_neg (by omega)]
  · rw [cS_num hn, canon_int, itoa_abs]
    have hv := (intB_ok hk).2
    by_cases hs : sgB (sgnOf s) = true
    · rw [if_pos hs] at hv ⊢
      by_cases h0 : k < 0
      · rw [if_pos h0]; exact .inl rfl
      · have hk0 : k = 0 := by omega
        subst hk0
        exact .inr (by rw [show (0 : Int).natAbs = 0 from rfl, decDigits_lt (by decide)]; rfl)
    · rw [if_neg hs] at hv ⊢
      rw [if_neg (show ¬ k < 0 by omega)]; exact .inl rfl
/-- What an int takes is some number's form. -/
theorem int_takes {a b : Int} {s F : Bs} (h : intF (itoa a) (itoa b) s = some F) : ∃ k, intB s = some k ∧ F = itoa k := by
  rw [intF_out] at h
  split at h
  · rename_i n _ _ e _ _
    split at h
    · cases h; exact ⟨n, e, rfl⟩
    · cases h
  · cases h
theorem real_takes {l m s F : Bs} (h : realF l m s = some F) : ∃ n, numB s = some n := by
  unfold realF at h
  split at h
  · rename_i e
    unfold bB at e
    simp only [Bool.and_eq_true] at e
    exact Option.isSome_iff_exists.1 e.1.1.1
  · cases h
end Go.Proofs.YtaalopiegabghaaGreatDoor
