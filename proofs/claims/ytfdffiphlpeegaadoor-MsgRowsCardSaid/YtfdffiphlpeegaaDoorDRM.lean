/- Messages read: how much there can be; rows, step by step. No program is named here. -/
import Derived.Test.YtfdffiphlpeegaaDoorDTrim
namespace Go.Proofs.YtfdffiphlpeegaaDoor

def Nar (f : RS → Option RS) : Prop := ∀ s s', f s = some s' → droom s' ≤ droom s
theorem dtake_room {k : Nat} {b : Bs} {s s' : RS} (h : rTake k s = some (b, s')) : s'.S.length + k = s.S.length ∧ droom s' + k = droom s := by
  obtain ⟨e1, e2, e3, e4⟩ := take_out h
  have := congrArg List.length e1
  rw [List.length_append, e2] at this
  refine ⟨by omega, ?_⟩
  unfold droom
  rw [e3, e4]; omega
theorem signed_room {k : Nat} {n : Int} {s s' : RS} (h : rSigned k s = some (n, s')) : s'.S.length + k = s.S.length ∧ droom s' + k = droom s := by
  obtain ⟨b, e1, e2, _, _, e5, e6⟩ := signed_out h
  have := congrArg List.length e1
  rw [List.length_append, e2] at this
  refine ⟨by omega, ?_⟩
  unfold droom
  rw [e5, e6]; omega
theorem keep_room (n : Int) (s : RS) : droom (rKeep n s) = droom s + 1 := by
  unfold droom rKeep
  show s.S.length + (s.T.length + (s.N ++ [n]).length) = _
  rw [List.length_append, List.length_singleton]; omega
theorem nar_num (k : Nat) (hk : 1 ≤ k) : Nar (fun s => (rSigned k s).map fun p => rKeep p.1 p.2) := by
  intro s s' h
  cases hx : rSigned k s with
  | none => simp only [hx] at h; cases h
  | some p =>
    obtain ⟨n, s1⟩ := p
    simp only [hx] at h
    obtain rfl := Option.some.inj h
    have h1 := (signed_room hx).2
    have h2 := keep_room n s1
    show droom (rKeep n s1) ≤ _
    omega
theorem nar_short : Nar rShort := nar_num 2 (by decide)
theorem nar_long : Nar rLong := nar_num 4 (by decide)
theorem dbyte_room {s s' : RS} (h : rByte s = some s') : droom s' ≤ droom s ∧ s'.S.length < s.S.length := by
  obtain ⟨c, e1, e2, e3, _⟩ := byte_out h
  unfold droom
  rw [e1, e2, e3, List.length_append, List.length_singleton, List.length_cons]
  omega
theorem dtext_room {s s' : RS} (h : rText s = some s') : droom s' ≤ droom s ∧ s'.S.length < s.S.length := by
  obtain ⟨t, e1, _, e3, e4⟩ := text_out h
  unfold droom
  rw [e1, e3, e4, List.length_append, List.length_append, List.length_append, List.length_singleton, List.length_singleton]
  omega
theorem nar_text : Nar rText := fun _ _ h => (dtext_room h).1
theorem ditem_room {s s' : RS} (h : rItem s = some s') : droom s' ≤ droom s ∧ s'.S.length < s.S.length := by
  unfold rItem at h
  cases hx : rByte s with
  | none => rw [hx] at h; cases h
  | some s1 =>
    rw [hx] at h
    have h1 := dbyte_room hx
    have h2 := dtext_room h
    omega
theorem draw_room {n : Int} {s s' : RS} (h : rRaw n s = some s') : droom s' ≤ droom s + 1 := by
  unfold rRaw at h
  cases hx : rTake n.toNat s with
  | none => rw [hx] at h; cases h
  | some p =>
    obtain ⟨b, s1⟩ := p
    rw [hx] at h
    obtain rfl := Option.some.inj h
    have h1 := (dtake_room hx).2
    unfold droom at h1 ⊢
    show s1.S.length + ((s1.T ++ [b]).length + s1.N.length) ≤ _
    rw [List.length_append, List.length_singleton]; omega
theorem nar_value : Nar rValue := by
  intro s s' h
  unfold rValue at h
  cases hx : rSigned 4 s with
  | none => rw [hx] at h; cases h
  | some p =>
    obtain ⟨n, s1⟩ := p
    rw [hx] at h
    simp only [Option.bind_some] at h
    have h1 := (signed_room hx).2
    have h2 := keep_room n s1
    split at h
    · split at h
      · obtain rfl := Option.some.inj h; omega
      · have := draw_room h; omega
    · cases h
theorem nar_name : Nar rName := by
  intro s s' h
  unfold rName at h
  cases hx : rText s with
  | none => rw [hx] at h; cases h
  | some s1 =>
    rw [hx] at h
    replace h : rTail s1 = some s' := h
    unfold rTail at h
    cases hy : rTake 18 s1 with
    | none => rw [hy] at h; cases h
    | some p =>
      obtain ⟨b, s2⟩ := p
      rw [hy] at h
      simp only [Option.bind_some] at h
      split at h
      · obtain rfl := Option.some.inj h
        have h1 := (dtext_room hx).1
        have h2 := (dtake_room hy).2
        omega
      · cases h
theorem nar_rep {f : RS → Option RS} (hf : Nar f) : ∀ n, Nar (rRep n f)
  | 0 => fun s s' h => by obtain rfl := Option.some.inj h; exact Nat.le_refl _
  | n + 1 => fun s s' h => by
    rw [rRep] at h
    cases hx : f s with
    | none => rw [hx] at h; cases h
    | some s1 => rw [hx] at h; exact Nat.le_trans (nar_rep hf n s1 s' h) (hf s s1 hx)
theorem nar_counted {f : RS → Option RS} (hf : Nar f) : Nar (rCounted f) := by
  intro s s' h
  unfold rCounted at h
  cases hx : rSigned 2 s with
  | none => rw [hx] at h; cases h
  | some p =>
    obtain ⟨n, s1⟩ := p
    rw [hx] at h
    simp only [Option.bind_some] at h
    split at h
    · have h1 := (signed_room hx).2
      have h2 := keep_room n s1
      have h3 := nar_rep hf _ _ _ h
      omega
    · cases h

/-! ### rows, step by step -/
def rowN (f : RS → Option RS) (s : RS) : Option (Nat × RS) := rRow f s.S.length s
theorem row_fuel {f : RS → Option RS} (hf : ∀ s s', f s = some s' → s'.S.length < s.S.length) : ∀ (k : Nat) (s : RS), s.S.length ≤ k → rRow f k s = rRow f s.S.length s := by
  intro k
  induction k using Nat.strongRecOn with
  | _ k ih =>
    intro s h
    cases k with
    | zero => rw [show s.S.length = 0 by omega]
    | succ k =>
      cases hS : s.S with
      | nil => rw [rRow, hS]; rfl
      | cons b r =>
        rw [List.length_cons, rRow, rRow, hS]
        simp only
        split
        · rfl
        · cases hx : f s with
          | none => rfl
          | some s1 =>
            have h1 := hf s s1 hx
            rw [hS, List.length_cons] at h1 h
            simp only [Option.bind_some]
            rw [ih k (by omega) s1 (by omega), ih r.length (by omega) s1 (by omega)]
theorem rowN_nil {f : RS → Option RS} {s : RS} (h : s.S = []) : rowN f s = none := by
  unfold rowN; rw [h]; rfl
theorem rowN_end {f : RS → Option RS} {s : RS} {r : Bs} (h : s.S = 0 :: r) : rowN f s = some (0, { s with S := r }) := by
  unfold rowN; rw [h, List.length_cons, rRow, h]; rfl
theorem rowN_next {f : RS → Option RS} (hf : ∀ s s', f s = some s' → s'.S.length < s.S.length) {s : RS} {b : UInt8} {r : Bs} (h : s.S = b :: r) (hb : b ≠ 0) : rowN f s = (f s).bind fun s1 => (rowN f s1).map fun p => (p.1 + 1, p.2) := by
  unfold rowN
  rw [h, List.length_cons, rRow, h]
  simp only
  rw [if_neg hb]
  cases hx : f s with
  | none => rfl
  | some s1 =>
    have h1 := hf s s1 hx
    rw [h, List.length_cons] at h1
    simp only [Option.bind_some]
    rw [row_fuel hf r.length s1 (by omega)]
theorem nar_row {f : RS → Option RS} (hf : Nar f) : ∀ (k : Nat) (s : RS) (m : Nat) (s' : RS), rRow f k s = some (m, s') → droom s' + 1 ≤ droom s := by
  intro k
  induction k with
  | zero => intro s m s' h; cases h
  | succ k ih =>
    intro s m s' h
    rw [rRow] at h
    cases hS : s.S with
    | nil => rw [hS] at h; cases h
    | cons b r =>
      rw [hS] at h
      simp only at h
      split at h
      · simp only [Option.some.injEq, Prod.mk.injEq] at h
        obtain ⟨_, rfl⟩ := h
        unfold droom
        rw [hS, List.length_cons]; show r.length + (s.T.length + s.N.length) + 1 ≤ _; omega
      · cases hx : f s with
        | none => rw [hx] at h; cases h
        | some s1 =>
          rw [hx] at h
          cases hy : rRow f k s1 with
          | none => simp only [Option.bind_some, hy] at h; cases h
          | some p =>
            obtain ⟨m1, s2⟩ := p
            simp only [Option.bind_some, hy, Option.map_some, Option.some.injEq, Prod.mk.injEq] at h
            obtain ⟨_, rfl⟩ := h
            have h1 := ih s1 m1 s2 hy
            have h2 := hf s s1 hx
            omega
theorem nar_pairs : Nar rPairs := by
  intro s s' h
  unfold rPairs at h
  cases hx : rRow rText s.S.length s with
  | none => rw [hx] at h; cases h
  | some p =>
    obtain ⟨m, s1⟩ := p
    rw [hx] at h
    simp only [Option.bind_some] at h
    split at h
    · obtain rfl := Option.some.inj h
      have h1 := nar_row nar_text _ _ _ _ hx
      have h2 := keep_room m s1
      omega
    · cases h
theorem nar_fields : Nar rFields := by
  intro s s' h
  unfold rFields at h
  cases hx : rRow rItem s.S.length (rKeep 0 s) with
  | none => rw [hx] at h; cases h
  | some p =>
    obtain ⟨m, s1⟩ := p
    rw [hx] at h
    obtain rfl := Option.some.inj h
    have h1 := nar_row (fun _ _ h => (ditem_room h).1) _ _ _ _ hx
    have h2 := keep_room 0 s
    have h3 : droom { s1 with N := s1.N.set s.N.length (m : Int) } = droom s1 := by unfold droom; simp
    show droom { s1 with N := s1.N.set s.N.length (m : Int) } ≤ _
    omega
theorem nar_field (c : UInt8) : Nar (rField c) := by
  intro s s' h
  unfold rField at h
  split at h
  · exact nar_text _ _ h
  split at h
  · exact (dbyte_room h).1
  split at h
  · exact nar_long _ _ h
  split at h
  · exact nar_pairs _ _ h
  split at h
  · exact nar_fields _ _ h
  split at h
  · exact nar_counted nar_short _ _ h
  split at h
  · exact nar_counted nar_long _ _ h
  split at h
  · exact nar_counted nar_value _ _ h
  split at h
  · exact nar_counted nar_name _ _ h
  · obtain rfl := Option.some.inj h; exact Nat.le_refl _

theorem rrep_add (f : RS → Option RS) : ∀ (a b : Nat) (s : RS), rRep (a + b) f s = (rRep a f s).bind (rRep b f) := by
  intro a
  induction a with
  | zero => intro b s; rw [Nat.zero_add]; rfl
  | succ a ih =>
    intro b s
    rw [Nat.succ_add, rRep, rRep]
    cases f s with
    | none => rfl
    | some s1 => exact ih b s1
theorem rrep_fail {f : RS → Option RS} {j n : Nat} {s s' : RS} (h : rRep j f s = some s') (hf : f s' = none) (hj : j < n) : rRep n f s = none := by
  rw [show n = j + ((n - j - 1) + 1) by omega, rrep_add, h]
  show rRep ((n - j - 1) + 1) f s' = none
  rw [rRep, hf]; rfl
theorem rrep_next {f : RS → Option RS} {j : Nat} {s s' s2 : RS} (h : rRep j f s = some s') (hf : f s' = some s2) : rRep (j + 1) f s = some s2 := by
  rw [rrep_add, h]
  show rRep 1 f s' = some s2
  rw [rRep, hf]; rfl
end Go.Proofs.YtfdffiphlpeegaaDoor
