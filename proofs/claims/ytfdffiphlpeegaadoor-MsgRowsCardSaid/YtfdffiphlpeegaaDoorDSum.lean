/- What is read is no more than what there was. No program is named here. -/
import Derived.Test.YtfdffiphlpeegaaDoorDRM
namespace Go.Proofs.YtfdffiphlpeegaaDoor

def dsum (s : RS) : Nat := s.S.length + (s.T.map List.length).sum
def NarS (f : RS → Option RS) : Prop := ∀ s s', f s = some s' → dsum s' ≤ dsum s
theorem dsum_take {k : Nat} {b : Bs} {s s' : RS} (h : rTake k s = some (b, s')) : dsum s' + b.length = dsum s := by
  obtain ⟨e1, e2, e3, _⟩ := take_out h
  have := congrArg List.length e1
  rw [List.length_append] at this
  unfold dsum
  rw [e3]; omega
theorem dsum_put (s : RS) (b : Bs) : dsum { s with T := s.T ++ [b] } = dsum s + b.length := by
  unfold dsum
  show s.S.length + ((s.T ++ [b]).map List.length).sum = _
  rw [List.map_append, List.sum_append]
  simp; omega
theorem dsum_signed {k : Nat} {n : Int} {s s' : RS} (h : rSigned k s = some (n, s')) : dsum s' ≤ dsum s := by
  unfold rSigned at h
  cases hx : rTake k s with
  | none => rw [hx] at h; cases h
  | some p =>
    obtain ⟨b, s1⟩ := p
    rw [hx] at h
    simp only [Option.map_some, Option.some.injEq, Prod.mk.injEq] at h
    obtain ⟨_, rfl⟩ := h
    have := dsum_take hx
    omega
theorem dsum_keep (n : Int) (s : RS) : dsum (rKeep n s) = dsum s := rfl
theorem nars_num (k : Nat) : NarS (fun s => (rSigned k s).map fun p => rKeep p.1 p.2) := by
  intro s s' h
  cases hx : rSigned k s with
  | none => simp only [hx] at h; cases h
  | some p =>
    obtain ⟨n, s1⟩ := p
    simp only [hx] at h
    obtain rfl := Option.some.inj h
    have h1 : dsum s1 ≤ dsum s := dsum_signed hx
    exact h1
theorem nars_text : NarS rText := by
  intro s s' h
  obtain ⟨t, e1, _, e3, _⟩ := text_out h
  unfold dsum
  rw [e1, e3, List.map_append, List.sum_append, List.length_append, List.length_append]
  simp; omega
theorem nars_byte : NarS rByte := by
  intro s s' h
  obtain ⟨c, e1, e2, _, _⟩ := byte_out h
  unfold dsum
  rw [e1, e2, List.length_cons]; omega
theorem nars_bind {f g : RS → Option RS} (hf : NarS f) (hg : NarS g) : NarS (fun s => (f s).bind g) := by
  intro s s' h
  cases hx : f s with
  | none => simp only [hx] at h; cases h
  | some s1 => simp only [hx] at h; exact Nat.le_trans (hg _ _ h) (hf _ _ hx)
theorem nars_value : NarS rValue := by
  intro s s' h
  unfold rValue at h
  cases hx : rSigned 4 s with
  | none => rw [hx] at h; cases h
  | some p =>
    obtain ⟨n, s1⟩ := p
    rw [hx] at h
    simp only [Option.bind_some] at h
    have h1 := dsum_signed hx
    split at h
    · split at h
      · obtain rfl := Option.some.inj h; exact h1
      · unfold rRaw at h
        cases hy : rTake n.toNat (rKeep n s1) with
        | none => rw [hy] at h; cases h
        | some p =>
          obtain ⟨b, s2⟩ := p
          rw [hy] at h
          obtain rfl := Option.some.inj h
          have h2 := dsum_take hy
          have h3 := dsum_put s2 b
          have h4 := dsum_keep n s1
          show dsum { s2 with T := s2.T ++ [b] } ≤ _
          omega
    · cases h
theorem nars_tail : NarS rTail := by
  intro s s' h
  unfold rTail at h
  cases hy : rTake 18 s with
  | none => rw [hy] at h; cases h
  | some p =>
    obtain ⟨b, s2⟩ := p
    rw [hy] at h
    simp only [Option.bind_some] at h
    split at h
    · obtain rfl := Option.some.inj h
      have := dsum_take hy
      omega
    · cases h
theorem nars_rep {f : RS → Option RS} (hf : NarS f) : ∀ n, NarS (rRep n f)
  | 0 => fun s s' h => by obtain rfl := Option.some.inj h; exact Nat.le_refl _
  | n + 1 => nars_bind hf (nars_rep hf n)
theorem nars_counted {f : RS → Option RS} (hf : NarS f) : NarS (rCounted f) := by
  intro s s' h
  unfold rCounted at h
  cases hx : rSigned 2 s with
  | none => rw [hx] at h; cases h
  | some p =>
    obtain ⟨n, s1⟩ := p
    rw [hx] at h
    simp only [Option.bind_some] at h
    split at h
    · have h1 := dsum_signed hx
      have h2 := nars_rep hf _ _ _ h
      have h3 := dsum_keep n s1
      omega
    · cases h
theorem nars_row {f : RS → Option RS} (hf : NarS f) : ∀ (k : Nat) (s : RS) (m : Nat) (s' : RS), rRow f k s = some (m, s') → dsum s' ≤ dsum s := by
  intro k
  induction k with
  | zero => intro s m s' h; cases h
  | succ k ih =>
    intro s m s' h
    rw [rRow] at h
    cases hS : s.S with
    | nil => rw [hS] at h; cases h
    | cons b r =>
      rw [hS] at h
      simp only at h
      split at h
      · simp only [Option.some.injEq, Prod.mk.injEq] at h
        obtain ⟨_, rfl⟩ := h
        unfold dsum
        rw [hS, List.length_cons]; show r.length + (s.T.map List.length).sum ≤ _; omega
      · cases hx : f s with
        | none => rw [hx] at h; cases h
        | some s1 =>
          rw [hx] at h
          cases hy : rRow f k s1 with
          | none => simp only [Option.bind_some, hy] at h; cases h
          | some p =>
            obtain ⟨m1, s2⟩ := p
            simp only [Option.bind_some, hy, Option.map_some, Option.some.injEq, Prod.mk.injEq] at h
            obtain ⟨_, rfl⟩ := h
            exact Nat.le_trans (ih s1 m1 s2 hy) (hf s s1 hx)
theorem nars_pairs : NarS rPairs := by
  intro s s' h
  unfold rPairs at h
  cases hx : rRow rText s.S.length s with
  | none => rw [hx] at h; cases h
  | some p =>
    obtain ⟨m, s1⟩ := p
    rw [hx] at h
    simp only [Option.bind_some] at h
    split at h
    · obtain rfl := Option.some.inj h
      exact (show dsum s1 ≤ dsum s from nars_row nars_text _ _ _ _ hx)
    · cases h
theorem nars_fields : NarS rFields := by
  intro s s' h
  unfold rFields at h
  cases hx : rRow rItem s.S.length (rKeep 0 s) with
  | none => rw [hx] at h; cases h
  | some p =>
    obtain ⟨m, s1⟩ := p
    rw [hx] at h
    obtain rfl := Option.some.inj h
    exact (show dsum s1 ≤ dsum (rKeep 0 s) from nars_row (f := rItem) (nars_bind nars_byte nars_text) _ _ _ _ hx)
theorem nars_field (c : UInt8) : NarS (rField c) := by
  intro s s' h
  unfold rField at h
  split at h
  · exact nars_text _ _ h
  split at h
  · exact nars_byte _ _ h
  split at h
  · exact nars_num 4 _ _ h
  split at h
  · exact nars_pairs _ _ h
  split at h
  · exact nars_fields _ _ h
  split at h
  · exact nars_counted (nars_num 2) _ _ h
  split at h
  · exact nars_counted (nars_num 4) _ _ h
  split at h
  · exact nars_counted nars_value _ _ h
  split at h
  · exact nars_counted (nars_bind nars_text nars_tail) _ _ h
  · obtain rfl := Option.some.inj h; exact Nat.le_refl _
theorem all_bounds : ∀ (l : Bs) (s s' : RS), rAll l s = some s' → dsum s' ≤ dsum s ∧ droom s' ≤ droom s
  | [], s, s', h => by obtain rfl := Option.some.inj h; exact ⟨Nat.le_refl _, Nat.le_refl _⟩
  | c :: l, s, s', h => by
    rw [rAll] at h
    cases hx : rField c s with
    | none => rw [hx] at h; cases h
    | some s1 =>
      rw [hx] at h
      obtain ⟨h1, h2⟩ := all_bounds l s1 s' h
      exact ⟨Nat.le_trans h1 (nars_field c _ _ hx), Nat.le_trans h2 (nar_field c _ _ hx)⟩
/-- The texts and numbers of a body are no more than it. -/
theorem read_bounds {back : Bool} {c : UInt8} {S : Bs} {T : List Bs} {N : List Int} (h : readL back c S = some (T, N)) : (T.map List.length).sum ≤ S.length ∧ T.length + N.length ≤ S.length := by
  unfold readL at h
  cases hl : layR back c S with
  | none => rw [hl] at h; cases h
  | some l =>
    rw [hl] at h
    simp only [Option.bind_some] at h
    cases hx : rAll l ⟨S, [], []⟩ with
    | none => rw [hx] at h; cases h
    | some s' =>
      rw [hx] at h
      simp only [Option.bind_some] at h
      unfold rDone at h
      split at h
      · simp only [Option.some.injEq, Prod.mk.injEq] at h
        obtain ⟨rfl, rfl⟩ := h
        obtain ⟨h1, h2⟩ := all_bounds l _ _ hx
        have e1 : dsum ⟨S, [], []⟩ = S.length := rfl
        have e2 : droom ⟨S, [], []⟩ = S.length := rfl
        rw [e1] at h1
        rw [e2] at h2
        unfold dsum at h1
        unfold droom at h2
        exact ⟨by omega, by omega⟩
      · cases h
theorem sum19 : ∀ T : List Bs, (T.map fun t => t.length + 19).sum = (T.map List.length).sum + 19 * T.length
  | [] => rfl
  | t :: T => by
    have := sum19 T
    simp only [List.map_cons, List.sum_cons, List.length_cons]
    omega
theorem read_room {back : Bool} {c : UInt8} {S : Bs} {T : List Bs} {N : List Int} (h : readL back c S = some (T, N)) (hS : S.length ≤ 10001) : room ⟨T, N, []⟩ ≤ 800000 := by
  obtain ⟨h1, h2⟩ := read_bounds h
  have h3 := sum19 T
  unfold room
  show 0 + ((T.map fun t => t.length + 19).sum + 4 * N.length) ≤ _
  omega
/-- Behind a whole body there is no room for a byte. -/
theorem read_longer {back : Bool} {c : UInt8} {T : List Bs} {N : List Int} {B : Bs} (h : written back c T N = some B) : readL back c (B ++ [0]) = none := by
  have hr := read_of_written h
  unfold readL at hr
  cases hl : layR back c B with
  | none => rw [hl] at hr; cases hr
  | some l =>
    rw [hl] at hr
    simp only [Option.bind_some] at hr
    cases hx : rAll l ⟨B, [], []⟩ with
    | none => rw [hx] at hr; cases hr
    | some s' =>
      rw [hx] at hr
      simp only [Option.bind_some] at hr
      unfold rDone at hr
      split at hr
      · rename_i hd
        -- the same layout
        have hL : layR back c (B ++ [0]) = some l := by
          unfold layR at hl ⊢
          by_cases hb : back = false ∧ c = 0
          · obtain ⟨rfl, rfl⟩ := hb
            have h4 : 4 ≤ B.length := by
              by_cases hc : isCancel B = true
              · exact (of_decide_eq_true hc).1
              · rw [if_neg (fun h => hc h.2.2), lay_bare] at hl
                obtain rfl := Option.some.inj hl
                have h1 : (rLong ⟨B, [], []⟩).bind (rAll [112]) = some s' := hx
                cases hy : rLong ⟨B, [], []⟩ with
                | none => rw [hy] at h1; cases h1
                | some s1 =>
                  unfold rLong at hy
                  cases hz : rSigned 4 ⟨B, [], []⟩ with
                  | none => rw [hz] at hy; cases hy
                  | some p =>
                    obtain ⟨n, s2⟩ := p
                    have := (dsigned_len hz)
                    have h5 : (⟨B, [], []⟩ : RS).S.length = B.length := rfl
                    omega
            have hcc : isCancel (B ++ [0]) = isCancel B := by
              unfold isCancel
              rw [List.take_append_of_le_length h4, List.length_append, List.length_singleton]
              simp [h4, show 4 ≤ B.length + 1 by omega]
            rw [hcc]; exact hl
          · rw [if_neg (fun h => hb ⟨h.1, h.2.1⟩)] at hl ⊢
            exact hl
        obtain ⟨t, n, b, e1, e2, e3, e4⟩ := bwd_all l _ _ hx
        have hb : B = b := by rw [show B = b ++ s'.S from e1, hd, List.append_nil]
        -- read what is written, with the byte behind
        have hw := e4 [] [] []
        rw [List.append_nil, List.append_nil] at hw
        obtain ⟨t', n', b', g1, g2, g3, g4⟩ := fwd_all l _ _ hw
        have hbb : b = b' := by
          have : [] ++ b = ([] : Bs) ++ b' := g3
          simpa using this
        have := g4 [0] [] []
        unfold readL
        rw [hL]
        simp only [Option.bind_some]
        rw [hb, hbb, this]
        simp [rDone]
      · cases hr
where
  dsigned_len {k : Nat} {n : Int} {s s' : RS} (h : rSigned k s = some (n, s')) : k ≤ s.S.length := by
    have := (signed_room h).1
    omega
end Go.Proofs.YtfdffiphlpeegaaDoor
