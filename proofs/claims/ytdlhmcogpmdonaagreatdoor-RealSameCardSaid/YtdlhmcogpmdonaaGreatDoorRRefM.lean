/- The document's way to the form of a number: mathematics. No program is named here. -/
import Derived.Test.YtdlhmcogpmdonaaGreatDoorRCanon
namespace Go.Proofs.YtdlhmcogpmdonaaGreatDoor
open Go.Lib

theorem low_keep {c k : UInt8} (hk : k.toNat < 65) : low c = k ↔ c = k := by
  by_cases h : c.toNat < 65
  · rw [low_plain h]
  · have h65 : 65 ≤ c := by rw [UInt8.le_iff_toNat_le]; show 65 ≤ c.toNat; omega
    constructor
    · intro e
      unfold low at e
      split at e
      · rename_i h90
        have h2 : c.toNat ≤ 90 := by have := h90.2; rw [UInt8.le_iff_toNat_le] at this; exact this
        have := congrArg UInt8.toNat e
        rw [UInt8.toNat_add, show (32 : UInt8).toNat = 32 from rfl] at this
        omega
      · subst e; omega
    · rintro rfl; omega
theorem low_dg (c : UInt8) : isDg (low c) ↔ isDg c := by
  unfold isDg low
  split
  · rename_i h
    have h1 : 65 ≤ c.toNat := by have := h.1; rw [UInt8.le_iff_toNat_le] at this; exact this
    have h2 : c.toNat ≤ 90 := by have := h.2; rw [UInt8.le_iff_toNat_le] at this; exact this
    rw [UInt8.toNat_add, show (32 : UInt8).toNat = 32 from rfl]
    omega
  · exact Iff.rfl
theorem sgn_low (l : Bs) : sgnOf (l.map low) = sgnOf l := by
  cases l with
  | nil => rfl
  | cons c l =>
    rw [List.map_cons, sgn_cons, sgn_cons]
    have h1 : low c = 43 ↔ c = 43 := low_keep (by decide)
    have h2 : low c = 45 ↔ c = 45 := low_keep (by decide)
    by_cases h : c = 43 ∨ c = 45
    · have hl : low c = 43 ∨ low c = 45 := h.imp h1.2 h2.2
      rw [if_pos (by simpa using hl), if_pos (by simpa using h)]
      rcases h with rfl | rfl <;> decide
    · have hl : ¬ (low c = 43 ∨ low c = 45) := fun e => h (e.imp h1.1 h2.1)
      rw [if_neg (by simpa using hl), if_neg (by simpa using h)]
theorem rest_low (l : Bs) : restOf (l.map low) = (restOf l).map low := by
  unfold restOf; rw [sgn_low, List.map_drop]
theorem dot_low (t : Bs) : dotOf (t.map low) = ⟨(dotOf t).w.map low, (dotOf t).dot, (dotOf t).p.map low⟩ := by
  have h : ∀ c : UInt8, (low c != 46) = (c != 46) := fun c => by
    rw [Bool.eq_iff_iff, bne_iff_ne, bne_iff_ne]
    exact not_congr (low_keep (by decide))
  have hf : ((fun x : UInt8 => x != 46) ∘ low) = fun x => x != 46 := funext h
  unfold dotOf
  congr 1
  · rw [List.takeWhile_map, hf]
  · rw [Bool.eq_iff_iff]
    simp only [List.contains_iff_mem, List.mem_map]
    constructor
    · rintro ⟨a, ha, e⟩
      rw [(low_keep (by decide)).1 e] at ha; exact ha
    · intro h; exact ⟨46, h, by decide⟩
  · rw [List.dropWhile_map, hf, List.map_drop]
theorem dgs_low (l : Bs) (n : Nat) : dgs (l.map low) n = dgs l n := by
  rw [Bool.eq_iff_iff, dgs_iff, dgs_iff, List.length_map]
  refine and_congr Iff.rfl ?_
  simp only [List.mem_map]
  constructor
  · intro h c hc; exact (low_dg c).1 (h _ ⟨c, hc, rfl⟩)
  · rintro h _ ⟨c, hc, rfl⟩; exact (low_dg c).2 (h c hc)
theorem dec_low (t : Bs) : decB (t.map low) = decB t := by
  unfold decB
  rw [dot_low]
  simp only [dgs_low]
  congr 2
  cases (dotOf t).w <;> cases (dotOf t).p <;> rfl
theorem dot_dec {t : Bs} (h : decB t = true) : dotOf (t.map low) = dotOf t := by
  have ho := dec_ok h
  have ht : t.map low = t := low_list fun c hc => by
    have := ho.byte (c := c) (by rw [dot_text]; exact hc)
    omega
  rw [ht]
/-- What a text says, off its letters as they are. -/
theorem num_plain (l : Bs) : numB l = if (restOf l).map low = nanB then (if sgnOf l = [] then some .nan else none)
    else if (restOf l).map low = infB ∨ (restOf l).map low = longB then some (.inf (sgB (sgnOf l)))
    else if decB (restOf l) = true then some (.fin (sgB (sgnOf l)) (dotOf (restOf l)).mil) else none := by
  unfold numB numOf
  rw [rest_low, sgn_low, dec_low]
  by_cases h : decB (restOf l) = true
  · rw [dot_dec h]
  · rw [if_neg h, if_neg h]
theorem dot_at {t : Bs} {k : Nat} (hk : k < t.length) (h0 : ∀ j, j < k → t[j]? ≠ some 46) (h1 : t[k]? = some 46) : (dotOf t).w = t.take k ∧ (dotOf t).p = t.drop (k + 1) := by
  have hs : t = t.take k ++ 46 :: t.drop (k + 1) := by
    have h2 : t[k] = 46 := by rw [List.getElem?_eq_getElem hk] at h1; exact Option.some.inj h1
    have h3 : t.drop k = t[k] :: t.drop (k + 1) := List.drop_eq_getElem_cons hk
    rw [h2] at h3
    rw [← h3, List.take_append_drop]
  have hall : ∀ x ∈ t.take k, (x != 46) = true := fun x hx => by
    rw [bne_iff_ne]; rintro rfl
    obtain ⟨j, hj, e⟩ := List.mem_iff_getElem.1 hx
    have hjk : j < k := by rw [List.length_take] at hj; omega
    have := h0 j hjk
    rw [List.getElem_take] at e
    rw [List.getElem?_eq_getElem (by omega), e] at this
    exact this rfl
  obtain ⟨A, hA⟩ : ∃ A, A = t.take k := ⟨_, rfl⟩
  obtain ⟨B, hB⟩ : ∃ B, B = t.drop (k + 1) := ⟨_, rfl⟩
  rw [← hA, ← hB] at hs ⊢
  rw [← hA] at hall
  rw [hs]
  unfold dotOf
  constructor
  · show List.takeWhile _ _ = _
    rw [List.takeWhile_append_of_pos hall, List.takeWhile_cons, if_neg (by decide), List.append_nil]
  · show (List.dropWhile _ _).drop 1 = _
    rw [List.dropWhile_append_of_pos hall, List.dropWhile_cons, if_neg (by decide)]; rfl
theorem dot_whole {t : Bs} (h0 : ∀ j, j < t.length → t[j]? ≠ some 46) : (dotOf t).w = t ∧ (dotOf t).p = [] := by
  have hall : ∀ x ∈ t, (x != 46) = true := fun x hx => by
    rw [bne_iff_ne]; rintro rfl
    obtain ⟨j, hj, e⟩ := List.mem_iff_getElem.1 hx
    have := h0 j hj
    rw [List.getElem?_eq_getElem hj, e] at this
    exact this rfl
  unfold dotOf
  constructor
  · have h2 := List.takeWhile_append_dropWhile (p := fun x : UInt8 => x != 46) (l := t)
    rw [drop_nil.2 hall, List.append_nil] at h2
    exact h2
  · show (List.dropWhile _ _).drop 1 = _
    rw [drop_nil.2 hall]; rfl
theorem headZ_cons (l : Bs) : headZ (48 :: l) = headZ l := by unfold headZ; rw [List.dropWhile_cons, if_pos (by decide)]
theorem headZ_ne {c : UInt8} (l : Bs) (h : c ≠ 48) : headZ (c :: l) = c :: l := by unfold headZ; rw [List.dropWhile_cons, if_neg (by simpa using h)]
/-- The text in the one form, as the document puts it together. -/
theorem canon_fin {d : Dcm} (h : d.ok) (neg : Bool) : canonB (.fin neg d.mil) = (if neg = true then [45] else []) ++ ((if headZ d.w = [] then [48] else headZ d.w) ++ (if trimZ d.p = [] then [] else 46 :: trimZ d.p)) := by
  show milText neg d.mil = _
  obtain ⟨hw, hp⟩ := cdm_of h
  rw [milText_eq, ← cdm_text]
  congr 1
  unfold Dcm.text
  have hd : (cdm d.mil).dot = decide (trimZ d.p ≠ []) := by rw [← hp]; rfl
  rw [hw, hp, hd]
  by_cases e : trimZ d.p = []
  · rw [e]; simp
  · rw [if_neg e, if_pos (by simpa using e)]
end Go.Proofs.YtdlhmcogpmdonaaGreatDoor
