/- Contracts and mathematics: MRQ. -/
import Derived.Test.YtmofnkinclckoaaGreatDoorZ10
import Derived.Test.YtmofnkinclckoaaGreatDoorZ6
namespace Go.Proofs.YtmofnkinclckoaaGreatDoor

/-- A step that puts a byte that is not 0 first. -/
def FwdC (q : List Int → Prop) (w : WS → Option WS) (r : RS → Option RS) : Prop :=
  ∀ s s', w s = some s' → ∃ t n c b, s.T = t ++ s'.T ∧ s.N = n ++ s'.N ∧ s'.B = s.B ++ c :: b ∧ c ≠ 0 ∧ q n ∧ ∀ S T N, r ⟨c :: b ++ S, T, N⟩ = some ⟨S, T ++ t, N ++ n⟩
def BwdC (q : List Int → Prop) (w : WS → Option WS) (r : RS → Option RS) : Prop :=
  ∀ s s' x l, s.S = x :: l → x ≠ 0 → r s = some s' → ∃ t n b, s.S = b ++ s'.S ∧ s'.T = s.T ++ [t] ∧ s'.N = s.N ++ n ∧ q n ∧ ∀ T N B, w ⟨t :: T, n ++ N, B⟩ = some ⟨T, N, B ++ b⟩

theorem fwd_row {q : List Int → Prop} {w : WS → Option WS} {r : RS → Option RS} (q0 : q []) (q2 : ∀ a b, q a → q b → q (a ++ b)) (h : FwdC q w r) :
    ∀ m s s', rep m w s = some s' → ∃ t n b, s.T = t ++ s'.T ∧ s.N = n ++ s'.N ∧ s'.B = s.B ++ b ∧ q n ∧ ∀ k S T N, b.length < k → rRow r k ⟨b ++ 0 :: S, T, N⟩ = some (m, ⟨S, T ++ t, N ++ n⟩) := by
  intro m
  induction m with
  | zero =>
    intro s s' hs
    obtain rfl := Option.some.inj hs
    refine ⟨[], [], [], rfl, rfl, (List.append_nil _).symm, q0, fun k S T N hk => ?_⟩
    obtain ⟨k, rfl⟩ : ∃ j, k = j + 1 := ⟨k - 1, by simp at hk; omega⟩
    simp [rRow]
  | succ m ih =>
    intro s s' hs
    rw [rep] at hs
    cases hx : w s with
    | none => rw [hx] at hs; cases hs
    | some s1 =>
      rw [hx] at hs
      obtain ⟨t, n, c, b, e1, e2, e3, hc, hq, e4⟩ := h s s1 hx
      obtain ⟨t', n', b', g1, g2, g3, hq', g4⟩ := ih s1 s' hs
      refine ⟨t ++ t', n ++ n', c :: b ++ b', by rw [e1, g1, List.append_assoc], by rw [e2, g2, List.append_assoc], by rw [g3, e3, List.append_assoc], q2 _ _ hq hq', fun k S T N hk => ?_⟩
      obtain ⟨k, rfl⟩ : ∃ j, k = j + 1 := ⟨k - 1, by omega⟩
      have hk' : b'.length < k := by simp at hk; omega
      rw [rRow]
      show (if c = 0 then _ else _) = _
      rw [if_neg hc, List.append_assoc, e4]
      show (rRow r k ⟨b' ++ 0 :: S, _, _⟩).map _ = _
      rw [g4 k S _ _ hk']
      simp
theorem bwd_row {q : List Int → Prop} {w : WS → Option WS} {r : RS → Option RS} (q0 : q []) (q2 : ∀ a b, q a → q b → q (a ++ b)) (h : BwdC q w r) :
    ∀ k s m s', rRow r k s = some (m, s') → ∃ t n b, s.S = b ++ 0 :: s'.S ∧ s'.T = s.T ++ t ∧ s'.N = s.N ++ n ∧ q n ∧ m = t.length ∧ ∀ T N B, rep m w ⟨t ++ T, n ++ N, B⟩ = some ⟨T, N, B ++ b⟩ := by
  intro k
  induction k with
  | zero => intro s m s' hs; cases hs
  | succ k ih =>
    intro s m s' hs
    rw [rRow] at hs
    cases hS : s.S with
    | nil => rw [hS] at hs; cases hs
    | cons x l =>
      rw [hS] at hs
      simp only at hs
      split at hs
      · rename_i hx
        simp only [Option.some.injEq, Prod.mk.injEq] at hs
        obtain ⟨rfl, rfl⟩ := hs
        subst hx
        exact ⟨[], [], [], rfl, (List.append_nil _).symm, (List.append_nil _).symm, q0, rfl, fun T N B => by simp [rep]⟩
      · rename_i hx
        cases hr : r s with
        | none => rw [hr] at hs; cases hs
        | some s1 =>
          rw [hr] at hs
          cases hr2 : rRow r k s1 with
          | none => simp only [Option.bind_some, hr2] at hs; cases hs
          | some p =>
            obtain ⟨m1, s2⟩ := p
            simp only [Option.bind_some, hr2, Option.map_some, Option.some.injEq, Prod.mk.injEq] at hs
            obtain ⟨rfl, rfl⟩ := hs
            obtain ⟨t, n, b, e1, e2, e3, hq, e4⟩ := h s s1 x l hS hx hr
            obtain ⟨t', n', b', g1, g2, g3, hq', hm, g4⟩ := ih s1 m1 s2 hr2
            refine ⟨t :: t', n ++ n', b ++ b', by rw [← hS, e1, g1, List.append_assoc], by rw [g2, e2, List.append_assoc]; rfl, by rw [g3, e3, List.append_assoc], q2 _ _ hq hq', by rw [hm]; rfl, fun T N B => ?_⟩
            rw [rep, List.cons_append, List.append_assoc, e4]
            show rep m1 w _ = _
            rw [g4, List.append_assoc]

theorem fwd_pair : FwdC (· = []) wPair rText := by
  intro s s' h
  unfold wPair at h
  cases hT : s.T with
  | nil => rw [hT] at h; cases h
  | cons t ts =>
    rw [hT] at h
    simp only at h
    split at h
    · cases h
    · rename_i hne
      obtain ⟨t1, e1, e2, e3, e4⟩ := wtext_out h
      rw [hT] at e1
      obtain ⟨rfl, e1⟩ := List.cons.inj e1
      match t, hne, e2 with
      | c :: b, _, e2 =>
        refine ⟨[c :: b], [], c, b ++ [0], by rw [e1]; rfl, by rw [e3]; rfl, by rw [e4]; simp, fun e => e2 (e ▸ List.mem_cons_self ..), rfl, fun S T N => ?_⟩
        have := text_pre e2 S T N
        rw [List.append_nil]
        exact this
theorem bwd_pair : BwdC (· = []) wPair rText := by
  intro s s' x l hS hx h
  obtain ⟨t, e1, e2, e3, e4⟩ := text_out h
  refine ⟨t, [], t ++ [0], e1, e3, by rw [e4, List.append_nil], rfl, fun T N B => ?_⟩
  unfold wPair
  simp only
  have hne : t ≠ [] := by
    intro e
    rw [e, hS] at e1
    exact hx (List.cons.inj e1).1
  rw [if_neg hne]
  exact wtext_in e2 T N B
theorem num_out {l m n : Int} {s s' : WS} (h : wNum l m s = some (n, s')) : s.N = n :: s'.N ∧ s'.T = s.T ∧ s'.B = s.B ∧ l ≤ n ∧ n ≤ m := by
  have hr := num_range h
  unfold wNum at h
  cases hN : s.N with
  | nil => rw [hN] at h; cases h
  | cons x ns =>
    rw [hN] at h
    simp only at h
    split at h
    · simp only [Option.some.injEq, Prod.mk.injEq] at h
      obtain ⟨rfl, rfl⟩ := h
      exact ⟨rfl, rfl, rfl, hr⟩
    · cases h
theorem num_in {l m n : Int} (h : l ≤ n ∧ n ≤ m) (T : List Bs) (N : List Int) (B : Bs) : wNum l m ⟨T, n :: N, B⟩ = some (n, ⟨T, N, B⟩) := by
  unfold wNum
  simp only
  rw [if_pos h]
theorem fwd_pairs : Fwd wPairs rPairs := by
  intro s s' h
  unfold wPairs at h
  cases hx : wNum 0 s.T.length s with
  | none => rw [hx] at h; cases h
  | some p =>
    obtain ⟨n, s1⟩ := p
    rw [hx] at h
    simp only [Option.bind_some] at h
    split at h
    · rename_i hpar
      cases hy : rep n.toNat wPair s1 with
      | none => rw [hy] at h; cases h
      | some s2 =>
        rw [hy] at h
        obtain rfl := Option.some.inj h
        obtain ⟨e1, e2, e3, e4, e5⟩ := num_out hx
        obtain ⟨t, nn, b, g1, g2, g3, rfl, g4⟩ := fwd_row (q := (· = [])) rfl (by rintro _ _ rfl rfl; rfl) fwd_pair _ _ _ hy
        refine ⟨t, [n], b ++ [0], by rw [← e2, g1]; rfl, by rw [e1, g2]; rfl, by show s2.B ++ [0] = _; rw [g3, e3, List.append_assoc], fun S T N => ?_⟩
        unfold rPairs
        have e : b ++ [0] ++ S = b ++ 0 :: S := by simp
        simp only [e]
        rw [g4 _ S T N (by simp)]
        simp only [Option.bind_some]
        rw [if_pos (by omega)]
        unfold rKeep
        rw [show ((n.toNat : Nat) : Int) = n by omega]
        simp
    · cases h
theorem bwd_pairs : Bwd wPairs rPairs := by
  intro s s' h
  unfold rPairs at h
  cases hx : rRow rText s.S.length s with
  | none => rw [hx] at h; cases h
  | some p =>
    obtain ⟨m, s1⟩ := p
    rw [hx] at h
    simp only [Option.bind_some] at h
    split at h
    · rename_i hpar
      obtain rfl := Option.some.inj h
      obtain ⟨t, nn, b, g1, g2, g3, rfl, hm, g4⟩ := bwd_row (q := (· = [])) rfl (by rintro _ _ rfl rfl; rfl) bwd_pair _ _ _ _ hx
      refine ⟨t, [(m : Int)], b ++ [0], by rw [g1]; show b ++ 0 :: s1.S = b ++ [0] ++ s1.S; simp, g2, by show s1.N ++ [_] = _; rw [g3, List.append_nil], fun T N B => ?_⟩
      unfold wPairs
      simp only [List.singleton_append]
      rw [num_in ⟨by omega, by simp; omega⟩]
      simp only [Option.bind_some]
      rw [if_pos (by omega), show ((m : Int)).toNat = m by omega]
      have := g4 T N B
      rw [List.nil_append] at this
      rw [this]
      simp [wZero]
    · cases h

theorem fwd_item : FwdC (fun _ => True) wItem rItem := by
  intro s s' h
  unfold wItem at h
  cases hx : wNumber 1 255 1 s with
  | none => rw [hx] at h; cases h
  | some p =>
    obtain ⟨n, s1⟩ := p
    rw [hx] at h
    simp only [Option.bind_some] at h
    obtain ⟨e1, e2, e3, e4, e5⟩ := number_out hx
    obtain ⟨t, g1, g2, g3, g4⟩ := wtext_out h
    have hb : be 1 n = [byteAt n 0] := rfl
    have hc : byteAt n 0 ≠ 0 := by
      intro e
      have := byteAt_toNat n 0
      rw [e] at this
      simp at this
      omega
    refine ⟨[t], [n], byteAt n 0, t ++ [0], by rw [← e2]; exact g1, by rw [e1, g3]; rfl, by rw [g4, e3, hb]; simp, hc, trivial, fun S T N => ?_⟩
    unfold rItem
    have := byte_pre n ⟨by omega, e5⟩ (t ++ [0] ++ S) T N
    rw [hb] at this
    show (rByte ⟨[byteAt n 0] ++ (t ++ [0] ++ S), T, N⟩).bind rText = _
    rw [this]
    exact text_pre g2 S T _
theorem bwd_item : BwdC (fun _ => True) wItem rItem := by
  intro s s' x l hS hx h
  unfold rItem at h
  cases hr : rByte s with
  | none => rw [hr] at h; cases h
  | some s1 =>
    rw [hr] at h
    obtain ⟨c, e1, e2, e3, e4⟩ := byte_out hr
    obtain ⟨t, g1, g2, g3, g4⟩ := text_out h
    have hxc : c ≠ 0 := by
      rw [hS] at e1
      exact (List.cons.inj e1).1 ▸ hx
    have hc0 : c.toNat ≠ 0 := fun e => hxc (UInt8.toNat_inj.1 e)
    have hc : c.toNat < 256 := UInt8.toNat_lt c
    refine ⟨t, [(c.toNat : Int)], c :: (t ++ [0]), by rw [e1, g1]; simp, by rw [g3, e2], by rw [g4, e3], trivial, fun T N B => ?_⟩
    unfold wItem
    rw [List.singleton_append, number_in 1 ⟨by omega, by omega⟩]
    simp only [Option.bind_some]
    rw [wtext_in g2, e4]
    simp
theorem set_mid {α : Type} (a : List α) (x y : α) (b : List α) : (a ++ x :: b).set a.length y = a ++ y :: b := by
  induction a with
  | nil => rfl
  | cons c a ih => rw [List.cons_append, List.length_cons, List.set_cons_succ, ih]; rfl
theorem fwd_fields : Fwd wFields rFields := by
  intro s s' h
  unfold wFields at h
  cases hx : wNum 0 s.T.length s with
  | none => rw [hx] at h; cases h
  | some p =>
    obtain ⟨n, s1⟩ := p
    rw [hx] at h
    simp only [Option.bind_some] at h
    cases hy : rep n.toNat wItem s1 with
    | none => rw [hy] at h; cases h
    | some s2 =>
      rw [hy] at h
      obtain rfl := Option.some.inj h
      obtain ⟨e1, e2, e3, e4, e5⟩ := num_out hx
      obtain ⟨t, nn, b, g1, g2, g3, _, g4⟩ := fwd_row (q := fun _ => True) trivial (fun _ _ _ _ => trivial) fwd_item _ _ _ hy
      refine ⟨t, n :: nn, b ++ [0], by rw [← e2, g1]; rfl, by rw [e1, g2]; rfl, by show s2.B ++ [0] = _; rw [g3, e3, List.append_assoc], fun S T N => ?_⟩
      unfold rFields rKeep
      have e : b ++ [0] ++ S = b ++ 0 :: S := by simp
      simp only [e]
      rw [g4 _ S T (N ++ [0]) (by simp)]
      simp only [Option.map_some]
      rw [show ((n.toNat : Nat) : Int) = n by omega, List.append_assoc, List.singleton_append, set_mid]
theorem bwd_fields : Bwd wFields rFields := by
  intro s s' h
  unfold rFields at h
  cases hx : rRow rItem s.S.length (rKeep 0 s) with
  | none => rw [hx] at h; cases h
  | some p =>
    obtain ⟨m, s1⟩ := p
    rw [hx] at h
    simp only [Option.map_some] at h
    obtain rfl := Option.some.inj h
    obtain ⟨t, nn, b, g1, g2, g3, _, hm, g4⟩ := bwd_row (q := fun _ => True) trivial (fun _ _ _ _ => trivial) bwd_item _ _ _ _ hx
    refine ⟨t, (m : Int) :: nn, b ++ [0], ?_, g2, ?_, fun T N B => ?_⟩
    · have g1' : s.S = b ++ 0 :: s1.S := g1
      rw [g1']; show b ++ 0 :: s1.S = b ++ [0] ++ s1.S; simp
    · have g3' : s1.N = s.N ++ [0] ++ nn := g3
      show s1.N.set _ _ = _
      rw [g3', List.append_assoc, List.singleton_append, set_mid]
    · unfold wFields
      simp only [List.cons_append]
      rw [num_in ⟨by omega, by simp; omega⟩]
      simp only [Option.bind_some]
      rw [show ((m : Int)).toNat = m by omega, g4]
      simp [wZero]

theorem fwd_counted {f : WS → Option WS} {r : RS → Option RS} (h : Fwd f r) : Fwd (wCounted f) (rCounted r) := by
  intro s s' hs
  unfold wCounted at hs
  cases hx : wNumber 0 100 2 s with
  | none => rw [hx] at hs; cases hs
  | some p =>
    obtain ⟨n, s1⟩ := p
    rw [hx] at hs
    simp only [Option.bind_some] at hs
    obtain ⟨e1, e2, e3, e4, e5⟩ := number_out hx
    obtain ⟨t, nn, b, g1, g2, g3, g4⟩ := fwd_rep h _ _ _ hs
    refine ⟨t, n :: nn, be 2 n ++ b, by rw [← e2]; exact g1, by rw [e1, g2]; rfl, by rw [g3, e3, List.append_assoc], fun S T N => ?_⟩
    unfold rCounted
    rw [List.append_assoc, signed_pre, sgn_be2 n ⟨by omega, by omega⟩]
    simp only [Option.bind_some]
    rw [if_pos ⟨e4, e5⟩]
    unfold rKeep
    rw [g4]
    simp
theorem bwd_counted {f : WS → Option WS} {r : RS → Option RS} (h : Bwd f r) : Bwd (wCounted f) (rCounted r) := by
  intro s s' hs
  unfold rCounted at hs
  cases hx : rSigned 2 s with
  | none => rw [hx] at hs; cases hs
  | some p =>
    obtain ⟨n, s1⟩ := p
    rw [hx] at hs
    simp only [Option.bind_some] at hs
    split at hs
    · rename_i hr
      obtain ⟨b, e1, e2, e3, e4, e5, e6⟩ := signed_out hx
      obtain ⟨t, nn, b', g1, g2, g3, g4⟩ := bwd_rep h _ _ _ hs
      have g1' : s1.S = b' ++ s'.S := g1
      have g2' : s'.T = s1.T ++ t := g2
      have g3' : s'.N = s1.N ++ [n] ++ nn := g3
      refine ⟨t, n :: nn, b ++ b', by rw [e1, g1', List.append_assoc], by rw [g2', e5], by rw [g3', e6]; simp, fun T N B => ?_⟩
      unfold wCounted
      rw [List.cons_append, number_in 2 hr]
      simp only [Option.bind_some]
      rw [g4, e4, List.append_assoc]
    · cases hs

theorem fwd_value : Fwd wValue rValue := by
  intro s s' hs
  unfold wValue at hs
  cases hx : wNumber (-1) 10000 4 s with
  | none => rw [hx] at hs; cases hs
  | some p =>
    obtain ⟨n, s1⟩ := p
    rw [hx] at hs
    simp only [Option.bind_some] at hs
    obtain ⟨e1, e2, e3, e4, e5⟩ := number_out hx
    split at hs
    · rename_i hn
      obtain rfl := Option.some.inj hs
      refine ⟨[], [n], be 4 n, by rw [e2]; rfl, by rw [e1]; rfl, e3, fun S T N => ?_⟩
      unfold rValue
      rw [signed_pre, sgn_be4 n ⟨by omega, by omega⟩]
      simp only [Option.bind_some]
      rw [if_pos ⟨e4, e5⟩, if_pos hn]
      simp [rKeep]
    · rename_i hn
      unfold wRaw at hs
      cases hT : s1.T with
      | nil => rw [hT] at hs; cases hs
      | cons t ts =>
        rw [hT] at hs
        simp only at hs
        split at hs
        · rename_i hl
          obtain rfl := Option.some.inj hs
          refine ⟨[t], [n], be 4 n ++ t, by rw [← e2, hT]; rfl, by rw [e1]; rfl, by show s1.B ++ t = _; rw [e3, List.append_assoc], fun S T N => ?_⟩
          unfold rValue
          rw [List.append_assoc, signed_pre, sgn_be4 n ⟨by omega, by omega⟩]
          simp only [Option.bind_some]
          rw [if_pos ⟨e4, e5⟩, if_neg hn]
          unfold rRaw rKeep
          have := take_pre t S T (N ++ [n])
          rw [show n.toNat = t.length by omega, this]
          rfl
        · cases hs
theorem bwd_value : Bwd wValue rValue := by
  intro s s' hs
  unfold rValue at hs
  cases hx : rSigned 4 s with
  | none => rw [hx] at hs; cases hs
  | some p =>
    obtain ⟨n, s1⟩ := p
    rw [hx] at hs
    simp only [Option.bind_some] at hs
    obtain ⟨b, e1, e2, e3, e4, e5, e6⟩ := signed_out hx
    split at hs
    · rename_i hr
      split at hs
      · rename_i hn
        obtain rfl := Option.some.inj hs
        refine ⟨[], [n], b, e1, by show s1.T = _; rw [e5, List.append_nil], by show s1.N ++ [n] = _; rw [e6], fun T N B => ?_⟩
        unfold wValue
        rw [List.singleton_append, number_in 4 hr]
        simp only [Option.bind_some]
        rw [if_pos hn, e4]; rfl
      · rename_i hn
        unfold rRaw at hs
        cases hy : rTake n.toNat (rKeep n s1) with
        | none => rw [hy] at hs; cases hs
        | some q =>
          obtain ⟨t, s2⟩ := q
          rw [hy] at hs
          obtain rfl := Option.some.inj hs
          obtain ⟨g1, g2, g3, g4⟩ := take_out hy
          have g1' : s1.S = t ++ s2.S := g1
          have g3' : s2.T = s1.T := g3
          have g4' : s2.N = s1.N ++ [n] := g4
          refine ⟨[t], [n], b ++ t, by rw [e1, g1', List.append_assoc], by show s2.T ++ [t] = _; rw [g3', e5], by show s2.N = _; rw [g4', e6], fun T N B => ?_⟩
          unfold wValue
          rw [List.singleton_append, List.singleton_append, number_in 4 hr]
          simp only [Option.bind_some]
          rw [if_neg hn, e4]
          unfold wRaw
          simp only
          rw [if_pos (by omega), List.append_assoc]
    · cases hs

def wTail (s : WS) : Option WS := some { s with B := s.B ++ List.replicate 18 0 }
theorem name_tail : wName = fun s => (wText s).bind wTail := by
  funext s
  unfold wName wTail
  cases wText s <;> rfl
theorem fwd_tail : Fwd wTail rTail := by
  intro s s' h
  obtain rfl := Option.some.inj h
  refine ⟨[], [], List.replicate 18 0, rfl, rfl, rfl, fun S T N => ?_⟩
  unfold rTail
  have := take_pre (List.replicate 18 0) S T N
  rw [List.length_replicate] at this
  rw [this]
  simp
theorem bwd_tail : Bwd wTail rTail := by
  intro s s' h
  unfold rTail at h
  cases hx : rTake 18 s with
  | none => rw [hx] at h; cases h
  | some p =>
    obtain ⟨b, s1⟩ := p
    rw [hx] at h
    simp only [Option.bind_some] at h
    split at h
    · rename_i hb
      obtain rfl := Option.some.inj h
      obtain ⟨e1, e2, e3, e4⟩ := take_out hx
      subst hb
      exact ⟨[], [], _, e1, by rw [e3, List.append_nil], by rw [e4, List.append_nil], fun T N B => rfl⟩
    · cases h
theorem fwd_name : Fwd wName rName := by rw [name_tail]; exact fwd_bind fwd_text fwd_tail
theorem bwd_name : Bwd wName rName := by rw [name_tail]; exact bwd_bind bwd_text bwd_tail

theorem fwd_field (c : UInt8) : Fwd (wField c) (rField c) := by
  unfold wField rField
  by_cases h : c = 115
  · simp only [if_pos h]; exact fwd_text
  simp only [if_neg h]; clear h
  by_cases h : c = 98
  · simp only [if_pos h]; exact fwd_byte
  simp only [if_neg h]; clear h
  by_cases h : c = 105
  · simp only [if_pos h]; exact fwd_long
  simp only [if_neg h]; clear h
  by_cases h : c = 112
  · simp only [if_pos h]; exact fwd_pairs
  simp only [if_neg h]; clear h
  by_cases h : c = 102
  · simp only [if_pos h]; exact fwd_fields
  simp only [if_neg h]; clear h
  by_cases h : c = 99
  · simp only [if_pos h]; exact fwd_counted fwd_short
  simp only [if_neg h]; clear h
  by_cases h : c = 108
  · simp only [if_pos h]; exact fwd_counted fwd_long
  simp only [if_neg h]; clear h
  by_cases h : c = 118
  · simp only [if_pos h]; exact fwd_counted fwd_value
  simp only [if_neg h]; clear h
  by_cases h : c = 109
  · simp only [if_pos h]; exact fwd_counted fwd_name
  simp only [if_neg h]; exact fwd_some
theorem bwd_field (c : UInt8) : Bwd (wField c) (rField c) := by
  unfold wField rField
  by_cases h : c = 115
  · simp only [if_pos h]; exact bwd_text
  simp only [if_neg h]; clear h
  by_cases h : c = 98
  · simp only [if_pos h]; exact bwd_byte
  simp only [if_neg h]; clear h
  by_cases h : c = 105
  · simp only [if_pos h]; exact bwd_long
  simp only [if_neg h]; clear h
  by_cases h : c = 112
  · simp only [if_pos h]; exact bwd_pairs
  simp only [if_neg h]; clear h
  by_cases h : c = 102
  · simp only [if_pos h]; exact bwd_fields
  simp only [if_neg h]; clear h
  by_cases h : c = 99
  · simp only [if_pos h]; exact bwd_counted bwd_short
  simp only [if_neg h]; clear h
  by_cases h : c = 108
  · simp only [if_pos h]; exact bwd_counted bwd_long
  simp only [if_neg h]; clear h
  by_cases h : c = 118
  · simp only [if_pos h]; exact bwd_counted bwd_value
  simp only [if_neg h]; clear h
  by_cases h : c = 109
  · simp only [if_pos h]; exact bwd_counted bwd_name
  simp only [if_neg h]; exact bwd_some
theorem fwd_all : ∀ l, Fwd (wAll l) (rAll l)
  | [] => fwd_some
  | c :: l => fwd_bind (fwd_field c) (fwd_all l)
theorem bwd_all : ∀ l, Bwd (wAll l) (rAll l)
  | [] => bwd_some
  | c :: l => bwd_bind (bwd_field c) (bwd_all l)

/-- The layout of a body. -/
def isCancel (S : Bs) : Bool := decide (4 ≤ S.length ∧ sgnM 4 (unsig (S.take 4)) = 80877102)
def layR (back : Bool) (c : UInt8) (S : Bs) : Option Bs := if back = false ∧ c = 0 ∧ isCancel S = true then some [105, 105, 105] else lay back c
def rDone (s : RS) : Option (List Bs × List Int) := if s.S = [] then some (s.T, s.N) else none
def readL (back : Bool) (c : UInt8) (S : Bs) : Option (List Bs × List Int) := (layR back c S).bind fun l => (rAll l ⟨S, [], []⟩).bind rDone

theorem first_w {l : Bs} {T : List Bs} {N : List Int} {s' : WS} (h : wAll (105 :: l) ⟨T, N, []⟩ = some s') : isCancel s'.B = decide (N.head? = some 80877102) := by
  have h1 : ((wLong ⟨T, N, []⟩).bind (wAll l)) = some s' := h
  cases hx : wLong ⟨T, N, []⟩ with
  | none => rw [hx] at h1; cases h1
  | some s1 =>
    rw [hx] at h1
    obtain ⟨_, _, b', _, _, g3, _⟩ := fwd_all l s1 s' h1
    unfold wLong at hx
    cases hy : wNumber (-2147483648) 2147483647 4 ⟨T, N, []⟩ with
    | none => rw [hy] at hx; cases hx
    | some p =>
      obtain ⟨n, s2⟩ := p
      rw [hy] at hx
      obtain rfl := Option.some.inj hx
      obtain ⟨e1, e2, e3, e4, e5⟩ := number_out hy
      have e1' : N = n :: s2.N := e1
      have e3' : s2.B = [] ++ be 4 n := e3
      have g3' : s'.B = be 4 n ++ b' := by rw [g3]; show s2.B ++ b' = _; rw [e3']; rfl
      rw [g3', e1']
      unfold isCancel
      have hl : (be 4 n).length = 4 := be_length 4 n
      rw [List.take_append_of_le_length (by omega), List.take_of_length_le (by omega), sgn_be4 n ⟨e4, e5⟩]
      simp [hl]
theorem first_r {l : Bs} {S : Bs} {s' : RS} (h : rAll (105 :: l) ⟨S, [], []⟩ = some s') : isCancel S = decide (s'.N.head? = some 80877102) := by
  have h1 : ((rLong ⟨S, [], []⟩).bind (rAll l)) = some s' := h
  cases hx : rLong ⟨S, [], []⟩ with
  | none => rw [hx] at h1; cases h1
  | some s1 =>
    rw [hx] at h1
    obtain ⟨_, n', b', _, _, g3, _⟩ := bwd_all l s1 s' h1
    unfold rLong at hx
    cases hy : rSigned 4 ⟨S, [], []⟩ with
    | none => rw [hy] at hx; cases hx
    | some p =>
      obtain ⟨n, s2⟩ := p
      rw [hy] at hx
      obtain rfl := Option.some.inj hx
      obtain ⟨b, e1, e2, e3, e4, e5, e6⟩ := signed_out hy
      have e1' : S = b ++ s2.S := e1
      have g3' : s'.N = n :: n' := by rw [g3]; show s2.N ++ [n] ++ n' = _; rw [e6]; rfl
      rw [g3', e1']
      unfold isCancel
      rw [List.take_append_of_le_length (by omega), List.take_of_length_le (by omega), ← e3]
      simp [e2]
theorem lay_bare : lay false 0 = some [105, 112] := rfl
theorem read_of_written {back : Bool} {c : UInt8} {T : List Bs} {N : List Int} {B : Bs} (h : written back c T N = some B) : readL back c B = some (T, N) := by
  unfold written at h
  cases hl : layW back c N with
  | none => rw [hl] at h; cases h
  | some l =>
    rw [hl] at h
    simp only [Option.bind_some] at h
    cases hx : wAll l ⟨T, N, []⟩ with
    | none => rw [hx] at h; cases h
    | some s' =>
      rw [hx] at h
      simp only [Option.bind_some] at h
      unfold wDone at h
      split at h
      · rename_i hd
        obtain rfl := Option.some.inj h
        obtain ⟨t, n, b, e1, e2, e3, e4⟩ := fwd_all l _ _ hx
        have e1' : T = t := by rw [show T = t ++ s'.T from e1, hd.1, List.append_nil]
        have e2' : N = n := by rw [show N = n ++ s'.N from e2, hd.2, List.append_nil]
        have e3' : s'.B = b := e3
        have hL : layR back c s'.B = some l := by
          unfold layW at hl
          unfold layR
          by_cases hb : back = false ∧ c = 0
          · obtain ⟨rfl, rfl⟩ := hb
            by_cases hc : N.head? = some 80877102
            · rw [if_pos ⟨rfl, rfl, hc⟩] at hl
              obtain rfl := Option.some.inj hl
              rw [if_pos ⟨rfl, rfl, by rw [first_w hx, hc]; rfl⟩]
            · rw [if_neg (fun h => hc h.2.2)] at hl
              rw [lay_bare] at hl
              obtain rfl := Option.some.inj hl
              rw [if_neg (fun h => by rw [first_w hx] at h; exact hc (of_decide_eq_true h.2.2))]
              rfl
          · rw [if_neg (fun h => hb ⟨h.1, h.2.1⟩)] at hl
            rw [if_neg (fun h => hb ⟨h.1, h.2.1⟩)]
            exact hl
        unfold readL
        rw [hL]
        simp only [Option.bind_some]
        have := e4 [] [] []
        rw [List.append_nil] at this
        rw [e3', this]
        simp [rDone, e1', e2']
      · cases h
theorem written_of_read {back : Bool} {c : UInt8} {T : List Bs} {N : List Int} {B : Bs} (h : readL back c B = some (T, N)) : written back c T N = some B := by
  unfold readL at h
  cases hl : layR back c B with
  | none => rw [hl] at h; cases h
  | some l =>
    rw [hl] at h
    simp only [Option.bind_some] at h
    cases hx : rAll l ⟨B, [], []⟩ with
    | none => rw [hx] at h; cases h
    | some s' =>
      rw [hx] at h
      simp only [Option.bind_some] at h
      unfold rDone at h
      split at h
      · rename_i hd
        simp only [Option.some.injEq, Prod.mk.injEq] at h
        obtain ⟨rfl, rfl⟩ := h
        obtain ⟨t, n, b, e1, e2, e3, e4⟩ := bwd_all l _ _ hx
        have e1' : B = b := by rw [show B = b ++ s'.S from e1, hd, List.append_nil]
        have e2' : s'.T = t := e2
        have e3' : s'.N = n := e3
        have hL : layW back c s'.N = some l := by
          unfold layR at hl
          unfold layW
          by_cases hb : back = false ∧ c = 0
          · obtain ⟨rfl, rfl⟩ := hb
            by_cases hc : isCancel B = true
            · rw [if_pos ⟨rfl, rfl, hc⟩] at hl
              obtain rfl := Option.some.inj hl
              rw [first_r hx] at hc
              rw [if_pos ⟨rfl, rfl, of_decide_eq_true hc⟩]
            · rw [if_neg (fun h => hc h.2.2)] at hl
              rw [lay_bare] at hl
              obtain rfl := Option.some.inj hl
              rw [first_r hx] at hc
              rw [if_neg (fun h => hc (decide_eq_true h.2.2))]
              rfl
          · rw [if_neg (fun h => hb ⟨h.1, h.2.1⟩)] at hl
            rw [if_neg (fun h => hb ⟨h.1, h.2.1⟩)]
            exact hl
        unfold written
        rw [hL]
        simp only [Option.bind_some]
        have := e4 [] [] []
        rw [List.append_nil, List.append_nil] at this
        rw [e2', e3', this]
        simp [wDone, e1']
      · cases h
theorem written_inj {back : Bool} {c : UInt8} {T T' : List Bs} {N N' : List Int} {B : Bs} (h : written back c T N = some B) (h' : written back c T' N' = some B) : T = T' ∧ N = N' := by
  have e := (read_of_written h).symm.trans (read_of_written h')
  simpa using e
end Go.Proofs.YtmofnkinclckoaaGreatDoor
