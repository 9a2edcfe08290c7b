/- Rows of texts in memory; texts whose bytes lie in a set. -/
import Derived.Test.YtaalopiegabghaaGreatDoorVL
import Derived.Test.YtaalopiegabghaaGreatDoorVN
import Derived.Test.YtaalopiegabghaaGreatDoorRAt
import Derived.ChangeSlices
import Derived.ChangeAlike
import Derived.OpenShut
namespace Go.Proofs.YtaalopiegabghaaGreatDoor
open Go.RowKit Go.Lib Go.WideShapes Go.ChangeShapes

/-- A row of texts. -/
def TextsIn (w0 : World) (v : Value) (T : List Bs) : Prop := ∃ a n c, v = .slice a n c ∧ T.length = n ∧ n ≤ c ∧ c ≤ 9223372036854775807 ∧
  (T = [] ∨ ∃ g off, a = some ⟨g, off, none⟩ ∧ g < w0.heap.size ∧ ∀ (i : Nat) (t : Bs), T[i]? = some t → w0.cell? ⟨g, off + i, none⟩ = some (.string ⟨t.toArray⟩))
theorem TextsIn.mono {w w' : World} {v : Value} {T : List Bs} (h : TextsIn w v T) (hb : Below w.heap.size w w') : TextsIn w' v T := by
  obtain ⟨a, n, c, hv, hl, hn, hc, hr⟩ := h
  refine ⟨a, n, c, hv, hl, hn, hc, hr.imp id ?_⟩
  rintro ⟨g, off, ha, hg, hcell⟩
  exact ⟨g, off, ha, Nat.lt_of_lt_of_le hg hb.size, fun i t ht => (hb.cell (p := ⟨g, off + i, none⟩) hg).trans (hcell i t ht)⟩
theorem TextsIn.nil (w : World) : TextsIn w (.slice none 0 0) [] := ⟨Option.none, 0, 0, rfl, rfl, Nat.le_refl _, by omega, .inl rfl⟩

/-- What is left of a text when bytes of a set are taken off both ends: nothing, just if all are of it. -/
theorem trim_set (l K : Bs) : trimS l K = [] ↔ l.all (fun c => K.contains c) = true := by
  unfold trimS trimLeftS
  rw [drop_nil]
  unfold trimRightS
  constructor
  · intro h
    rcases List.eq_nil_or_concat (List.reverse (List.dropWhile (fun x => K.contains x) l.reverse)) with e | ⟨a, b, e⟩
    · rw [List.reverse_eq_nil_iff, drop_nil] at e
      rw [List.all_eq_true]
      intro c hc
      exact e c (List.mem_reverse.2 hc)
    · have hb := h b (by rw [e]; simp)
      have e2 : List.dropWhile (fun x => K.contains x) l.reverse = b :: a.reverse := by
        have := congrArg List.reverse e
        rw [List.reverse_reverse] at this
        rw [this]; simp
      have h3 := List.head_dropWhile_not (p := fun x => K.contains x) (l := l.reverse) (by rw [e2]; simp)
      simp only [e2, List.head_cons] at h3
      rw [hb] at h3; cases h3
  · intro h x hx
    have : x ∈ l := List.mem_reverse.1 ((List.dropWhile_sublist _).subset (List.mem_reverse.1 hx))
    exact List.all_eq_true.1 h x this
abbrev azB : Bs := [97, 98, 99, 100, 101, 102, 103, 104, 105, 106, 107, 108, 109, 110, 111, 112, 113, 114, 115, 116, 117, 118, 119, 120, 121, 122]
theorem az_has (c : UInt8) : azB.contains c = decide (97 ≤ c.toNat ∧ c.toNat ≤ 122) := by
  have h : ∀ n : Nat, n < 256 → azB.contains (UInt8.ofNat n) = decide (97 ≤ (UInt8.ofNat n).toNat ∧ (UInt8.ofNat n).toNat ≤ 122) := by decide +kernel
  have h2 := h c.toNat (UInt8.toNat_lt c)
  rwa [UInt8.ofNat_toNat] at h2
theorem all_az (l : Bs) : (trimS l azB).isEmpty = l.all fun c => decide (97 ≤ c.toNat ∧ c.toNat ≤ 122) := by
  refine iff_bool ?_
  rw [List.isEmpty_iff, trim_set]
  have : (fun c : UInt8 => azB.contains c) = fun c => decide (97 ≤ c.toNat ∧ c.toNat ≤ 122) := funext az_has
  rw [this]
theorem all_ten (l : Bs) : (trimS l tenB).isEmpty = allD l := by
  refine iff_bool ?_
  rw [List.isEmpty_iff, trim_ten]; rfl
end Go.Proofs.YtaalopiegabghaaGreatDoor
