/- Contracts and mathematics: DSum, QDM, EM. -/
import Derived.Test.YtfdffiphlpeegaaDoorZ11
import Derived.Test.YtfdffiphlpeegaaDoorZ14
import Derived.Test.YtfdffiphlpeegaaDoorZ7
import Derived.Test.YtfdffiphlpeegaaDoorZ5
import Derived.Test.YtfdffiphlpeegaaDoorZ6
namespace Go.Proofs.YtfdffiphlpeegaaDoor

def dsum (s : RS) : Nat := s.S.length + (s.T.map List.length).sum
def NarS (f : RS → Option RS) : Prop := ∀ s s', f s = some s' → dsum s' ≤ dsum s
theorem dsum_take {k : Nat} {b : Bs} {s s' : RS} (h : rTake k s = some (b, s')) : dsum s' + b.length = dsum s := by
  obtain ⟨e1, e2, e3, _⟩ := take_out h
  have := congrArg List.length e1
  rw [List.length_append] at this
  unfold dsum
  rw [e3]; omega
theorem dsum_put (s : RS) (b : Bs) : dsum { s with T := s.T ++ [b] } = dsum s + b.length := by
  unfold dsum
  show s.S.length + ((s.T ++ [b]).map List.length).sum = _
  rw [List.map_append, List.sum_append]
  simp; omega
theorem dsum_signed {k : Nat} {n : Int} {s s' : RS} (h : rSigned k s = some (n, s')) : dsum s' ≤ dsum s := by
  unfold rSigned at h
  cases hx : rTake k s with
  | none => rw [hx] at h; cases h
  | some p =>
    obtain ⟨b, s1⟩ := p
    rw [hx] at h
    simp only [Option.map_some, Option.some.injEq, Prod.mk.injEq] at h
    obtain ⟨_, rfl⟩ := h
    have := dsum_take hx
    omega
theorem dsum_keep (n : Int) (s : RS) : dsum (rKeep n s) = dsum s := rfl
theorem nars_num (k : Nat) : NarS (fun s => (rSigned k s).map fun p => rKeep p.1 p.2) := by
  intro s s' h
  cases hx : rSigned k s with
  | none => simp only [hx] at h; cases h
  | some p =>
    obtain ⟨n, s1⟩ := p
    simp only [hx] at h
    obtain rfl := Option.some.inj h
    have h1 : dsum s1 ≤ dsum s := dsum_signed hx
    exact h1
theorem nars_text : NarS rText := by
  intro s s' h
  obtain ⟨t, e1, _, e3, _⟩ := text_out h
  unfold dsum
  rw [e1, e3, List.map_append, List.sum_append, List.length_append, List.length_append]
  simp; omega
theorem nars_byte : NarS rByte := by
  intro s s' h
  obtain ⟨c, e1, e2, _, _⟩ := byte_out h
  unfold dsum
  rw [e1, e2, List.length_cons]; omega
theorem nars_bind {f g : RS → Option RS} (hf : NarS f) (hg : NarS g) : NarS (fun s => (f s).bind g) := by
  intro s s' h
  cases hx : f s with
  | none => simp only [hx] at h; cases h
  | some s1 => simp only [hx] at h; exact Nat.le_trans (hg _ _ h) (hf _ _ hx)
theorem nars_value : NarS rValue := by
  intro s s' h
  unfold rValue at h
  cases hx : rSigned 4 s with
  | none => rw [hx] at h; cases h
  | some p =>
    obtain ⟨n, s1⟩ := p
    rw [hx] at h
    simp only [Option.bind_some] at h
    have h1 := dsum_signed hx
    split at h
    · split at h
      · obtain rfl := Option.some.inj h; exact h1
      · unfold rRaw at h
        cases hy : rTake n.toNat (rKeep n s1) with
        | none => rw [hy] at h; cases h
        | some p =>
          obtain ⟨b, s2⟩ := p
          rw [hy] at h
          obtain rfl := Option.some.inj h
          have h2 := dsum_take hy
          have h3 := dsum_put s2 b
          have h4 := dsum_keep n s1
          show dsum { s2 with T := s2.T ++ [b] } ≤ _
          omega
    · cases h
theorem nars_tail : NarS rTail := by
  intro s s' h
  unfold rTail at h
  cases hy : rTake 18 s with
  | none => rw [hy] at h; cases h
  | some p =>
    obtain ⟨b, s2⟩ := p
    rw [hy] at h
    simp only [Option.bind_some] at h
    split at h
    · obtain rfl := Option.some.inj h
      have := dsum_take hy
      omega
    · cases h
theorem nars_rep {f : RS → Option RS} (hf : NarS f) : ∀ n, NarS (rRep n f)
  | 0 => fun s s' h => by obtain rfl := Option.some.inj h; exact Nat.le_refl _
  | n + 1 => nars_bind hf (nars_rep hf n)
theorem nars_counted {f : RS → Option RS} (hf : NarS f) : NarS (rCounted f) := by
  intro s s' h
  unfold rCounted at h
  cases hx : rSigned 2 s with
  | none => rw [hx] at h; cases h
  | some p =>
    obtain ⟨n, s1⟩ := p
    rw [hx] at h
    simp only [Option.bind_some] at h
    split at h
    · have h1 := dsum_signed hx
      have h2 := nars_rep hf _ _ _ h
      have h3 := dsum_keep n s1
      omega
    · cases h
theorem nars_row {f : RS → Option RS} (hf : NarS f) : ∀ (k : Nat) (s : RS) (m : Nat) (s' : RS), rRow f k s = some (m, s') → dsum s' ≤ dsum s := by
  intro k
  induction k with
  | zero => intro s m s' h; cases h
  | succ k ih =>
    intro s m s' h
    rw [rRow] at h
    cases hS : s.S with
    | nil => rw [hS] at h; cases h
    | cons b r =>
      rw [hS] at h
      simp only at h
      split at h
      · simp only [Option.some.injEq, Prod.mk.injEq] at h
        obtain ⟨_, rfl⟩ := h
        unfold dsum
        rw [hS, List.length_cons]; show r.length + (s.T.map List.length).sum ≤ _; omega
      · cases hx : f s with
        | none => rw [hx] at h; cases h
        | some s1 =>
          rw [hx] at h
          cases hy : rRow f k s1 with
          | none => simp only [Option.bind_some, hy] at h; cases h
          | some p =>
            obtain ⟨m1, s2⟩ := p
            simp only [Option.bind_some, hy, Option.map_some, Option.some.injEq, Prod.mk.injEq] at h
            obtain ⟨_, rfl⟩ := h
            exact Nat.le_trans (ih s1 m1 s2 hy) (hf s s1 hx)
theorem nars_pairs : NarS rPairs := by
  intro s s' h
  unfold rPairs at h
  cases hx : rRow rText s.S.length s with
  | none => rw [hx] at h; cases h
  | some p =>
    obtain ⟨m, s1⟩ := p
    rw [hx] at h
    simp only [Option.bind_some] at h
    split at h
    · obtain rfl := Option.some.inj h
      exact (show dsum s1 ≤ dsum s from nars_row nars_text _ _ _ _ hx)
    · cases h
theorem nars_fields : NarS rFields := by
  intro s s' h
  unfold rFields at h
  cases hx : rRow rItem s.S.length (rKeep 0 s) with
  | none => rw [hx] at h; cases h
  | some p =>
    obtain ⟨m, s1⟩ := p
    rw [hx] at h
    obtain rfl := Option.some.inj h
    exact (show dsum s1 ≤ dsum (rKeep 0 s) from nars_row (f := rItem) (nars_bind nars_byte nars_text) _ _ _ _ hx)
theorem nars_field (c : UInt8) : NarS (rField c) := by
  intro s s' h
  unfold rField at h
  split at h
  · exact nars_text _ _ h
  split at h
  · exact nars_byte _ _ h
  split at h
  · exact nars_num 4 _ _ h
  split at h
  · exact nars_pairs _ _ h
  split at h
  · exact nars_fields _ _ h
  split at h
  · exact nars_counted (nars_num 2) _ _ h
  split at h
  · exact nars_counted (nars_num 4) _ _ h
  split at h
  · exact nars_counted nars_value _ _ h
  split at h
  · exact nars_counted (nars_bind nars_text nars_tail) _ _ h
  · obtain rfl := Option.some.inj h; exact Nat.le_refl _
theorem all_bounds : ∀ (l : Bs) (s s' : RS), rAll l s = some s' → dsum s' ≤ dsum s ∧ droom s' ≤ droom s
  | [], s, s', h => by obtain rfl := Option.some.inj h; exact ⟨Nat.le_refl _, Nat.le_refl _⟩
  | c :: l, s, s', h => by
    rw [rAll] at h
    cases hx : rField c s with
    | none => rw [hx] at h; cases h
    | some s1 =>
      rw [hx] at h
      obtain ⟨h1, h2⟩ := all_bounds l s1 s' h
      exact ⟨Nat.le_trans h1 (nars_field c _ _ hx), Nat.le_trans h2 (nar_field c _ _ hx)⟩
/-- The texts and numbers of a body are no more than it. -/
theorem read_bounds {back : Bool} {c : UInt8} {S : Bs} {T : List Bs} {N : List Int} (h : readL back c S = some (T, N)) : (T.map List.length).sum ≤ S.length ∧ T.length + N.length ≤ S.length := by
  unfold readL at h
  cases hl : layR back c S with
  | none => rw [hl] at h; cases h
  | some l =>
    rw [hl] at h
    simp only [Option.bind_some] at h
    cases hx : rAll l ⟨S, [], []⟩ with
    | none => rw [hx] at h; cases h
    | some s' =>
      rw [hx] at h
      simp only [Option.bind_some] at h
      unfold rDone at h
      split at h
      · simp only [Option.some.injEq, Prod.mk.injEq] at h
        obtain ⟨rfl, rfl⟩ := h
        obtain ⟨h1, h2⟩ := all_bounds l _ _ hx
        have e1 : dsum ⟨S, [], []⟩ = S.length := rfl
        have e2 : droom ⟨S, [], []⟩ = S.length := rfl
        rw [e1] at h1
        rw [e2] at h2
        unfold dsum at h1
        unfold droom at h2
        exact ⟨by omega, by omega⟩
      · cases h
theorem sum19 : ∀ T : List Bs, (T.map fun t => t.length + 19).sum = (T.map List.length).sum + 19 * T.length
  | [] => rfl
  | t :: T => by
    have := sum19 T
    simp only [List.map_cons, List.sum_cons, List.length_cons]
    omega
theorem read_room {back : Bool} {c : UInt8} {S : Bs} {T : List Bs} {N : List Int} (h : readL back c S = some (T, N)) (hS : S.length ≤ 10001) : room ⟨T, N, []⟩ ≤ 800000 := by
  obtain ⟨h1, h2⟩ := read_bounds h
  have h3 := sum19 T
  unfold room
  show 0 + ((T.map fun t => t.length + 19).sum + 4 * N.length) ≤ _
  omega
/-- Behind a whole body there is no room for a byte. -/
theorem read_longer {back : Bool} {c : UInt8} {T : List Bs} {N : List Int} {B : Bs} (h : written back c T N = some B) : readL back c (B ++ [0]) = none := by
  have hr := read_of_written h
  unfold readL at hr
  cases hl : layR back c B with
  | none => rw [hl] at hr; cases hr
  | some l =>
    rw [hl] at hr
    simp only [Option.bind_some] at hr
    cases hx : rAll l ⟨B, [], []⟩ with
    | none => rw [hx] at hr; cases hr
    | some s' =>
      rw [hx] at hr
      simp only [Option.bind_some] at hr
      unfold rDone at hr
      split at hr
      · rename_i hd
        -- the same layout
        have hL : layR back c (B ++ [0]) = some l := by
          unfold layR at hl ⊢
          by_cases hb : back = false ∧ c = 0
          · obtain ⟨rfl, rfl⟩ := hb
            have h4 : 4 ≤ B.length := by
              by_cases hc : isCancel B = true
              · exact (of_decide_eq_true hc).1
              · rw [if_neg (fun h => hc h.2.2), lay_bare] at hl
                obtain rfl := Option.some.inj hl
                have h1 : (rLong ⟨B, [], []⟩).bind (rAll [112]) = some s' := hx
                cases hy : rLong ⟨B, [], []⟩ with
                | none => rw [hy] at h1; cases h1
                | some s1 =>
                  unfold rLong at hy
                  cases hz : rSigned 4 ⟨B, [], []⟩ with
                  | none => rw [hz] at hy; cases hy
                  | some p =>
                    obtain ⟨n, s2⟩ := p
                    have := (dsigned_len hz)
                    have h5 : (⟨B, [], []⟩ : RS).S.length = B.length := rfl
                    omega
            have hcc : isCancel (B ++ [0]) = isCancel B := by
              unfold isCancel
              rw [List.take_append_of_le_length h4, List.length_append, List.length_singleton]
              simp [h4, show 4 ≤ B.length + 1 by omega]
            rw [hcc]; exact hl
          · rw [if_neg (fun h => hb ⟨h.1, h.2.1⟩)] at hl ⊢
            exact hl
        obtain ⟨t, n, b, e1, e2, e3, e4⟩ := bwd_all l _ _ hx
        have hb : B = b := by rw [show B = b ++ s'.S from e1, hd, List.append_nil]
        -- read what is written, with the byte behind
        have hw := e4 [] [] []
        rw [List.append_nil, List.append_nil] at hw
        obtain ⟨t', n', b', g1, g2, g3, g4⟩ := fwd_all l _ _ hw
        have hbb : b = b' := by
          have : [] ++ b = ([] : Bs) ++ b' := g3
          simpa using this
        have := g4 [0] [] []
        unfold readL
        rw [hL]
        simp only [Option.bind_some]
        rw [hb, hbb, this]
        simp [rDone]
      · cases hr
where
  dsigned_len {k : Nat} {n : Int} {s s' : RS} (h : rSigned k s = some (n, s')) : k ≤ s.S.length := by
    have := (signed_room h).1
    omega
end Go.Proofs.YtfdffiphlpeegaaDoor

namespace Go.Proofs.YtfdffiphlpeegaaDoor
open Go.RowKit Go.Lib Go.WideShapes

/-- If the body can be read: what is read at the letter i of the layout l. -/
def qInv (back : Bool) (c : UInt8) (S : Bs) (l : Bs) (i : Nat) (q : QS) : Prop := ∀ T N, readL back c S = some (T, N) → q.bad = false ∧ (i = 0 → lay back c = some l ∧ q.s = ⟨S, [], []⟩) ∧ (0 < i → rAll (l.drop i) q.s = some ⟨[], T, N⟩)
/-- Is it a cancel's body, by its first number? -/
def qCan (back : Bool) (c : UInt8) (i : Nat) (N : List Int) : Bool := decide (i = 0 ∧ back = false ∧ c = 0 ∧ N.head? = some 80877102)
theorem readL_of {back : Bool} {c : UInt8} {S : Bs} {T : List Bs} {N : List Int} (h : readL back c S = some (T, N)) : ∃ L, layR back c S = some L ∧ rAll L ⟨S, [], []⟩ = some ⟨[], T, N⟩ := by
  unfold readL at h
  cases hl : layR back c S with
  | none => rw [hl] at h; cases h
  | some L =>
    rw [hl] at h
    have h1 : (rAll L ⟨S, [], []⟩).bind rDone = some (T, N) := h
    cases hr : rAll L ⟨S, [], []⟩ with
    | none => rw [hr] at h1; cases h1
    | some s1 =>
      rw [hr] at h1
      have h2 : rDone s1 = some (T, N) := h1
      unfold rDone at h2
      split at h2
      · rename_i hS
        obtain ⟨rfl, rfl⟩ := Prod.mk.inj (Option.some.inj h2)
        refine ⟨L, rfl, ?_⟩
        rw [← hS]
        exact hr
      · cases h2
theorem rAll_consQ {d : UInt8} {l : Bs} {s s2 : RS} (h : rAll (d :: l) s = some s2) : ∃ s1, rField d s = some s1 ∧ rAll l s1 = some s2 := by
  have h1 : (rField d s).bind (rAll l) = some s2 := h
  cases hx : rField d s with
  | none => rw [hx] at h1; cases h1
  | some s1 => rw [hx] at h1; exact ⟨s1, rfl, h1⟩
theorem qinv_step {back : Bool} {c d : UInt8} {S l : Bs} {i : Nat} {q q1 : QS} (h : qInv back c S l i q) (hd : l[i]? = some d) (h1 : ∀ s1, rField d q.s = some s1 → q1 = ⟨s1, false⟩) : qInv back c S (if qCan back c i q1.s.N then [105, 105, 105] else l) (i + 1) q1 := by
  intro T N hr
  obtain ⟨hb, h0, hp⟩ := h T N hr
  have hdr : l.drop i = d :: l.drop (i + 1) := by
    obtain ⟨hl, he⟩ := List.getElem?_eq_some_iff.1 hd
    rw [List.drop_eq_getElem_cons hl, he]
  by_cases hi : i = 0
  · subst hi
    obtain ⟨hlay, hq⟩ := h0 rfl
    obtain ⟨L, hL, hA⟩ := readL_of hr
    have hl1 : l = d :: l.drop 1 := by have := hdr; simpa using this
    by_cases hz : back = false ∧ c = 0
    · obtain ⟨rfl, rfl⟩ := hz
      have hl2 : l = [105, 112] := by rw [lay_bare] at hlay; exact (Option.some.inj hlay).symm
      have hd2 : d = 105 := by rw [hl2] at hd; exact (Option.some.inj hd).symm
      subst hd2
      have hL2 : ∃ L', L = 105 :: L' ∧ (L' = if isCancel S = true then [105, 105] else [112]) := by
        unfold layR at hL
        by_cases hc : isCancel S = true
        · rw [if_pos ⟨rfl, rfl, hc⟩] at hL
          exact ⟨[105, 105], (Option.some.inj hL).symm, by rw [if_pos hc]⟩
        · rw [if_neg (fun h => hc h.2.2), lay_bare] at hL
          exact ⟨[112], (Option.some.inj hL).symm, by rw [if_neg hc]⟩
      obtain ⟨L', rfl, hL'⟩ := hL2
      obtain ⟨s1, hf, hrest⟩ := rAll_consQ hA
      rw [← hq] at hf
      obtain rfl := h1 s1 hf
      have hcan : isCancel S = decide (s1.N.head? = some 80877102) := by
        apply first_r (l := [])
        show (rField 105 ⟨S, [], []⟩).bind some = some s1
        rw [← hq, hf]; rfl
      refine ⟨rfl, fun h => absurd h (Nat.succ_ne_zero 0), fun _ => ?_⟩
      unfold qCan
      by_cases hh : s1.N.head? = some 80877102
      · rw [if_pos (decide_eq_true ⟨rfl, rfl, rfl, hh⟩)]
        rw [hL', hcan, if_pos (decide_eq_true hh)] at hrest
        exact hrest
      · rw [if_neg (fun h => hh (of_decide_eq_true h).2.2.2), hl2]
        rw [hL', hcan, if_neg (fun h => hh (of_decide_eq_true h))] at hrest
        exact hrest
    · have hL2 : L = l := by
        unfold layR at hL
        rw [if_neg (fun h => hz ⟨h.1, h.2.1⟩), hlay] at hL
        exact (Option.some.inj hL).symm
      rw [hL2, hl1] at hA
      obtain ⟨s1, hf, hrest⟩ := rAll_consQ hA
      rw [← hq] at hf
      obtain rfl := h1 s1 hf
      refine ⟨rfl, fun h => absurd h (Nat.succ_ne_zero 0), fun _ => ?_⟩
      unfold qCan
      rw [if_neg (fun h => hz ⟨(of_decide_eq_true h).2.1, (of_decide_eq_true h).2.2.1⟩)]
      exact hrest
  · have hA := hp (Nat.pos_of_ne_zero hi)
    rw [hdr] at hA
    obtain ⟨s1, hf, hrest⟩ := rAll_consQ hA
    obtain rfl := h1 s1 hf
    refine ⟨rfl, fun h => absurd h (Nat.succ_ne_zero i), fun _ => ?_⟩
    unfold qCan
    rw [if_neg (fun h => hi (of_decide_eq_true h).1)]
    exact hrest
theorem qinv_end {back : Bool} {c : UInt8} {S l : Bs} {i : Nat} {q : QS} (h : qInv back c S l i q) (hi : l.length ≤ i) : ∀ T N, readL back c S = some (T, N) → q = ⟨⟨[], T, N⟩, false⟩ := by
  intro T N hr
  obtain ⟨hb, h0, hp⟩ := h T N hr
  have hs : q.s = ⟨[], T, N⟩ := by
    by_cases hz : i = 0
    · subst hz
      obtain ⟨hlay, hq⟩ := h0 rfl
      obtain rfl : l = [] := List.length_eq_zero_iff.1 (Nat.le_zero.1 hi)
      obtain ⟨L, hL, hA⟩ := readL_of hr
      have hL2 : L = [] := by
        unfold layR at hL
        by_cases hc : back = false ∧ c = 0 ∧ isCancel S = true
        · obtain ⟨rfl, rfl, _⟩ := hc
          rw [lay_bare] at hlay; cases hlay
        · rw [if_neg hc, hlay] at hL
          exact (Option.some.inj hL).symm
      subst hL2
      rw [hq]
      exact Option.some.inj hA
    · have := hp (Nat.pos_of_ne_zero hz)
      rw [List.drop_eq_nil_of_le hi] at this
      exact Option.some.inj this
  cases q with | mk a b => cases hb; cases hs; rfl
theorem qinv_bad {back : Bool} {c : UInt8} {S l : Bs} {i : Nat} {q : QS} (h : qInv back c S l i q) (hb : q.bad = true) : readL back c S = none := by
  cases hr : readL back c S with
  | none => rfl
  | some p => have := (h p.1 p.2 hr).1; rw [hb] at this; cases this
theorem qpot_bounds {s : RS} {n : Nat} (h : qpot s ≤ n) : s.T.length ≤ n ∧ room ⟨s.T, s.N, []⟩ ≤ 23 * n := by
  unfold qpot at h
  refine ⟨by omega, ?_⟩
  show 0 + ((s.T.map fun t => t.length + 19).sum + 4 * s.N.length) ≤ _
  rw [sum19]
  omega
end Go.Proofs.YtfdffiphlpeegaaDoor

namespace Go.Proofs.YtfdffiphlpeegaaDoor

/-- What is left of a message, what is written; was it wrong? -/
structure XS where
  T : List Bs
  N : List Int
  B : Bs
  bad : Bool

def XS.ws (s : XS) : WS := ⟨s.T, s.N, s.B⟩
def xr (s : XS) : Nat := room s.ws
def xNum (s : XS) : Int × XS := match s.N with | [] => (0, { s with bad := true }) | n :: ns => (n, { s with N := ns })
def xText (s : XS) : Bs × XS := match s.T with | [] => ([], { s with bad := true }) | t :: ts => (t, { s with T := ts })
def xEnded (t : Bs) (s : XS) : XS := { s with bad := s.bad || decide ((0 : UInt8) ∈ t), B := s.B ++ (t ++ [0]) }
def xNumber (n : Int) (k : Nat) (l m : Int) (s : XS) : XS := if l ≤ n ∧ n ≤ m then { s with B := s.B ++ be k n } else { s with bad := true }
def xCount (most : Int) (s : XS) : Int × XS := if 0 ≤ (xNum s).1 ∧ (xNum s).1 ≤ most then xNum s else (0, { (xNum s).2 with bad := true })
def xRep : Nat → (XS → XS) → XS → XS
  | 0, _, s => s
  | n + 1, f, s => if s.bad then s else xRep n f (f s)
def xEndText (s : XS) : XS := xEnded (xText s).1 (xText s).2
def xNumF (l m : Int) (k : Nat) (s : XS) : XS := xNumber (xNum s).1 k l m (xNum s).2
def xPair (s : XS) : XS := xEnded (xText s).1 { (xText s).2 with bad := (xText s).2.bad || decide ((xText s).1 = []) }
def xItem (s : XS) : XS := xEndText (xNumF 1 255 1 s)
def xZero (s : XS) : XS := { s with B := s.B ++ [0] }
def xPairs (s : XS) : XS :=
  let p := xCount 10000 s
  let r := xRep p.1.toNat xPair p.2
  xZero { r with bad := r.bad || decide (p.1 % 2 = 1) }
def xFields (s : XS) : XS :=
  let p := xCount 10000 s
  xZero (xRep p.1.toNat xItem p.2)
def xTail (s : XS) : XS := { s with B := s.B ++ List.replicate 18 0 }
def xName (s : XS) : XS := xTail (xEndText s)
def xRaw (n : Int) (s : XS) : XS := { (xText s).2 with bad := (xText s).2.bad || decide (¬ ((xText s).1.length : Int) = n), B := (xText s).2.B ++ (xText s).1 }
def xValue (s : XS) : XS :=
  let p := xNum s
  let r := xNumber p.1 4 (-1) 10000 p.2
  if 0 ≤ p.1 then xRaw p.1 r else r
def xOne (c : UInt8) (s : XS) : XS :=
  if c = 99 then xNumF (-32768) 32767 2 s
  else if c = 108 then xNumF (-2147483648) 2147483647 4 s
  else if c = 109 then xName s
  else xValue s
def xRow (c : UInt8) (s : XS) : XS :=
  let p := xCount 100 s
  xRep p.1.toNat (xOne c) (xNumber p.1 2 0 100 p.2)
def xField (c : UInt8) (s : XS) : XS :=
  if c = 115 then xEndText s
  else if c = 98 then xNumF 0 255 1 s
  else if c = 104 then xNumF (-32768) 32767 2 s
  else if c = 105 then xNumF (-2147483648) 2147483647 4 s
  else if c = 112 then xPairs s
  else if c = 102 then xFields s
  else xRow c s
def xAll : Bs → XS → XS
  | [], s => s
  | c :: l, s => if s.bad then s else xAll l (xField c s)

/-! ### how much there is, and that what is wrong stays so -/
/-- A step: what is wrong stays wrong; it puts no more than there is, and at most d more if it is wrong. -/
structure Step (d : Nat) (f : XS → XS) : Prop where
  bad : ∀ s, s.bad = true → (f s).bad = true
  room : ∀ s, xr (f s) ≤ xr s + d
  good : ∀ s, (f s).bad = false → xr (f s) ≤ xr s

theorem xr_eq (s : XS) : xr s = s.B.length + ((s.T.map fun t => t.length + 19).sum + 4 * s.N.length) := rfl
theorem num_ways (s : XS) : (s.N = [] ∧ xNum s = (0, { s with bad := true })) ∨ (∃ n ns, s.N = n :: ns ∧ xNum s = (n, { s with N := ns }) ∧ xr { s with N := ns } + 4 = xr s) := by
  unfold xNum
  cases h : s.N with
  | nil => exact .inl ⟨rfl, rfl⟩
  | cons n ns =>
    refine .inr ⟨n, ns, rfl, rfl, ?_⟩
    rw [xr_eq, xr_eq, h, List.length_cons]
    show s.B.length + ((s.T.map fun t => t.length + 19).sum + 4 * ns.length) + 4 = _
    omega
theorem text_ways (s : XS) : (s.T = [] ∧ xText s = ([], { s with bad := true })) ∨ (∃ t ts, s.T = t :: ts ∧ xText s = (t, { s with T := ts }) ∧ xr { s with T := ts } + (t.length + 19) = xr s) := by
  unfold xText
  cases h : s.T with
  | nil => exact .inl ⟨rfl, rfl⟩
  | cons t ts =>
    refine .inr ⟨t, ts, rfl, rfl, ?_⟩
    rw [xr_eq, xr_eq, h, List.map_cons, List.sum_cons]
    show s.B.length + ((ts.map fun t => t.length + 19).sum + 4 * s.N.length) + (t.length + 19) = _
    omega
theorem xr_put (s : XS) (b : Bs) (d : Bool) : xr { s with B := s.B ++ b, bad := d } = xr s + b.length := by
  rw [xr_eq, xr_eq]
  show (s.B ++ b).length + _ = _
  rw [List.length_append]
  show s.B.length + b.length + ((s.T.map fun t => t.length + 19).sum + 4 * s.N.length) = _
  omega
theorem xr_bad (s : XS) (d : Bool) : xr { s with bad := d } = xr s := rfl
theorem xr_ended (t : Bs) (s : XS) : xr (xEnded t s) = xr s + (t.length + 1) := by
  unfold xEnded
  rw [xr_put, List.length_append]; rfl
theorem xr_number (n : Int) (k : Nat) (l m : Int) (s : XS) : xr (xNumber n k l m s) ≤ xr s + k := by
  unfold xNumber
  split
  · have := xr_put s (be k n) s.bad
    rw [be_length] at this
    exact Nat.le_of_eq this
  · exact Nat.le_add_right _ _
theorem bad_number {n : Int} {k : Nat} {l m : Int} {s : XS} (h : s.bad = true) : (xNumber n k l m s).bad = true := by
  unfold xNumber
  split
  · exact h
  · rfl
theorem bad_num {s : XS} (h : s.bad = true) : (xNum s).2.bad = true := by
  rcases num_ways s with ⟨_, e⟩ | ⟨n, ns, _, e, _⟩
  · rw [e]
  · rw [e]; exact h
theorem bad_text {s : XS} (h : s.bad = true) : (xText s).2.bad = true := by
  rcases text_ways s with ⟨_, e⟩ | ⟨n, ns, _, e, _⟩
  · rw [e]
  · rw [e]; exact h
theorem bad_ended {t : Bs} {s : XS} (h : s.bad = true) : (xEnded t s).bad = true := by
  show (s.bad || _) = true
  rw [h]; rfl
theorem step_endtext : Step 1 xEndText where
  bad := fun s h => bad_ended (bad_text h)
  room := fun s => by
    unfold xEndText
    rcases text_ways s with ⟨_, e⟩ | ⟨t, ts, _, e, h⟩
    · rw [e, xr_ended]; exact Nat.le_refl _
    · rw [e, xr_ended]; show xr { s with T := ts } + (t.length + 1) ≤ _; omega
  good := fun s hb => by
    unfold xEndText at hb ⊢
    rcases text_ways s with ⟨_, e⟩ | ⟨t, ts, _, e, h⟩
    · rw [e] at hb; cases hb
    · rw [e, xr_ended]; show xr { s with T := ts } + (t.length + 1) ≤ _; omega
theorem step_numf {l m : Int} {k : Nat} (hk : k ≤ 4) : Step 4 (xNumF l m k) where
  bad := fun s h => bad_number (bad_num h)
  room := fun s => by
    unfold xNumF
    rcases num_ways s with ⟨_, e⟩ | ⟨t, ts, _, e, h⟩
    · rw [e]; have := xr_number 0 k l m { s with bad := true }; have e2 : xr { s with bad := true } = xr s := rfl; show xr (xNumber 0 k l m { s with bad := true }) ≤ _; omega
    · rw [e]; have := xr_number t k l m { s with N := ts }; show xr (xNumber t k l m { s with N := ts }) ≤ _; omega
  good := fun s hb => by
    unfold xNumF at hb ⊢
    rcases num_ways s with ⟨_, e⟩ | ⟨t, ts, _, e, h⟩
    · rw [e] at hb; rw [bad_number rfl] at hb; cases hb
    · rw [e]; have := xr_number t k l m { s with N := ts }; show xr (xNumber t k l m { s with N := ts }) ≤ _; omega
theorem Step.comp {a b : Nat} {f g : XS → XS} (hf : Step a f) (hg : Step b g) : Step (a + b) (fun s => g (f s)) where
  bad := fun s h => hg.bad _ (hf.bad s h)
  room := fun s => by have h1 := hf.room s; have h2 := hg.room (f s); show xr (g (f s)) ≤ _; omega
  good := fun s h => by
    have h1 := hg.good (f s) h
    have h2 : (f s).bad = false := by
      cases hb : (f s).bad with
      | false => rfl
      | true => have := hg.bad _ hb; rw [show (g (f s)).bad = false from h] at this; cases this
    have h3 := hf.good s h2
    show xr (g (f s)) ≤ _
    omega
theorem step_item : Step 5 xItem := (step_numf (by decide)).comp step_endtext
theorem step_pair : Step 1 xPair where
  bad := fun s h => by
    unfold xPair
    exact bad_ended (by show ((xText s).2.bad || _) = true; rw [bad_text h]; rfl)
  room := fun s => by
    unfold xPair
    rw [xr_ended, xr_bad]
    rcases text_ways s with ⟨_, e⟩ | ⟨t, ts, _, e, h⟩
    · rw [e]; exact Nat.le_refl _
    · rw [e]; show xr { s with T := ts } + (t.length + 1) ≤ _; omega
  good := fun s hb => by
    unfold xPair at hb ⊢
    rw [xr_ended, xr_bad]
    rcases text_ways s with ⟨_, e⟩ | ⟨t, ts, _, e, h⟩
    · rw [e] at hb; cases hb
    · rw [e]; show xr { s with T := ts } + (t.length + 1) ≤ _; omega
theorem step_name : Step 19 xName where
  bad := fun s h => step_endtext.bad s h
  room := fun s => by
    have h1 := step_endtext.room s
    have := xr_put (xEndText s) (List.replicate 18 0) (xEndText s).bad
    rw [List.length_replicate] at this
    show xr { xEndText s with B := (xEndText s).B ++ List.replicate 18 0 } ≤ _
    rw [this]; omega
  good := fun s hb => by
    have hb' : (xEndText s).bad = false := hb
    have := xr_put (xEndText s) (List.replicate 18 0) (xEndText s).bad
    rw [List.length_replicate] at this
    show xr { xEndText s with B := (xEndText s).B ++ List.replicate 18 0 } ≤ _
    rw [this]
    unfold xEndText at hb' ⊢
    rcases text_ways s with ⟨_, e⟩ | ⟨t, ts, _, e, h⟩
    · rw [e] at hb'; cases hb'
    · rw [e, xr_ended]; show xr { s with T := ts } + (t.length + 1) + 18 ≤ _; omega
theorem bad_raw {n : Int} {s : XS} (h : s.bad = true) : (xRaw n s).bad = true := by
  show ((xText s).2.bad || _) = true
  rw [bad_text h]; rfl
theorem xr_raw (n : Int) (s : XS) : xr (xRaw n s) ≤ xr s := by
  unfold xRaw
  rw [xr_put]
  rcases text_ways s with ⟨_, e⟩ | ⟨t, ts, _, e, h⟩
  · rw [e]; exact Nat.le_refl _
  · rw [e]; show xr { s with T := ts } + t.length ≤ _; omega
theorem step_value : Step 4 xValue where
  bad := fun s h => by
    unfold xValue
    simp only
    split
    · exact bad_raw (bad_number (bad_num h))
    · exact bad_number (bad_num h)
  room := fun s => by
    have h1 : xr (xNumber (xNum s).1 4 (-1) 10000 (xNum s).2) ≤ xr s + 4 := by
      have := xr_number (xNum s).1 4 (-1) 10000 (xNum s).2
      have h2 : xr (xNum s).2 ≤ xr s := by
        rcases num_ways s with ⟨_, e⟩ | ⟨t, ts, _, e, h⟩
        · rw [e]; exact Nat.le_refl _
        · rw [e]; show xr { s with N := ts } ≤ _; omega
      omega
    unfold xValue
    simp only
    split
    · exact Nat.le_trans (xr_raw _ _) h1
    · exact h1
  good := fun s hb => by
    unfold xValue at hb ⊢
    simp only at hb ⊢
    rcases num_ways s with ⟨_, e⟩ | ⟨t, ts, _, e, h⟩
    · exfalso
      rw [e] at hb
      split at hb
      · rw [bad_raw (bad_number rfl)] at hb; cases hb
      · rw [bad_number rfl] at hb; cases hb
    · rw [e]
      have h1 := xr_number t 4 (-1) 10000 { s with N := ts }
      have h2 := xr_raw t (xNumber t 4 (-1) 10000 { s with N := ts })
      split
      · show xr (xRaw t (xNumber t 4 (-1) 10000 { s with N := ts })) ≤ _; omega
      · show xr (xNumber t 4 (-1) 10000 { s with N := ts }) ≤ _; omega
theorem Step.mono {a b : Nat} {f : XS → XS} (h : Step a f) (hab : a ≤ b) : Step b f where
  bad := h.bad
  room := fun s => Nat.le_trans (h.room s) (Nat.add_le_add_left hab _)
  good := h.good
theorem step_one (c : UInt8) : Step 19 (xOne c) := by
  by_cases h1 : c = 99
  · have : xOne c = xNumF (-32768) 32767 2 := by funext s; unfold xOne; rw [if_pos h1]
    rw [this]; exact (step_numf (by decide)).mono (by decide)
  by_cases h2 : c = 108
  · have : xOne c = xNumF (-2147483648) 2147483647 4 := by funext s; unfold xOne; rw [if_neg h1, if_pos h2]
    rw [this]; exact (step_numf (by decide)).mono (by decide)
  by_cases h3 : c = 109
  · have : xOne c = xName := by funext s; unfold xOne; rw [if_neg h1, if_neg h2, if_pos h3]
    rw [this]; exact step_name
  · have : xOne c = xValue := by funext s; unfold xOne; rw [if_neg h1, if_neg h2, if_neg h3]
    rw [this]; exact step_value.mono (by decide)
theorem rep_bad {f : XS → XS} {s : XS} (h : s.bad = true) : ∀ n, xRep n f s = s
  | 0 => rfl
  | n + 1 => by rw [xRep, if_pos h]
theorem step_rep {d : Nat} {f : XS → XS} (hf : Step d f) : ∀ n, Step d (xRep n f)
  | 0 => ⟨fun _ h => h, fun _ => Nat.le_add_right _ _, fun _ _ => Nat.le_refl _⟩
  | n + 1 => by
    have ih := step_rep hf n
    refine ⟨fun s h => by rw [rep_bad h]; exact h, fun s => ?_, fun s hb => ?_⟩
    · cases hs : s.bad with
      | true => rw [rep_bad hs]; exact Nat.le_add_right _ _
      | false =>
        rw [xRep, if_neg (by rw [hs]; decide)]
        cases hb : (f s).bad with
        | true => rw [rep_bad hb]; exact hf.room s
        | false => exact Nat.le_trans (ih.room _) (Nat.add_le_add_right (hf.good s hb) _)
    · cases hs : s.bad with
      | true => rw [rep_bad hs]; exact Nat.le_refl _
      | false =>
        rw [xRep, if_neg (by rw [hs]; decide)] at hb ⊢
        have h1 := ih.good _ hb
        have h2 : (f s).bad = false := by
          cases hb2 : (f s).bad with
          | false => rfl
          | true => have := ih.bad _ hb2; rw [hb] at this; cases this
        exact Nat.le_trans h1 (hf.good s h2)
end Go.Proofs.YtfdffiphlpeegaaDoor
