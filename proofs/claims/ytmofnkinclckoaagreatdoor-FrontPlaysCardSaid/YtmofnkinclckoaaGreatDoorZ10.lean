/- Contracts and mathematics: MRP. -/
import Derived.Test.YtmofnkinclckoaaGreatDoorZ9
namespace Go.Proofs.YtmofnkinclckoaaGreatDoor

def rTake (n : Nat) (s : RS) : Option (Bs × RS) := if n ≤ s.S.length then some (s.S.take n, { s with S := s.S.drop n }) else none
def rUnsigned (k : Nat) (s : RS) : Option (Int × RS) := (rTake k s).map fun p => ((unsig p.1 : Int), p.2)
def rSigned (k : Nat) (s : RS) : Option (Int × RS) := (rTake k s).map fun p => (sgnM k (unsig p.1), p.2)
def rKeep (n : Int) (s : RS) : RS := { s with N := s.N ++ [n] }
def rShort (s : RS) : Option RS := (rSigned 2 s).map fun p => rKeep p.1 p.2
def rLong (s : RS) : Option RS := (rSigned 4 s).map fun p => rKeep p.1 p.2
def rByte (s : RS) : Option RS := (rUnsigned 1 s).map fun p => rKeep p.1 p.2
def rText (s : RS) : Option RS := if (0 : UInt8) ∈ s.S then some { s with S := s.S.drop ((s.S.takeWhile (· != 0)).length + 1), T := s.T ++ [s.S.takeWhile (· != 0)] } else none
def rRep : Nat → (RS → Option RS) → RS → Option RS
  | 0, _, s => some s
  | n + 1, f, s => (f s).bind (rRep n f)
/-- Things up to a byte 0: how many. -/
def rRow (f : RS → Option RS) : Nat → RS → Option (Nat × RS)
  | 0, _ => none
  | k + 1, s => match s.S with
    | [] => none
    | b :: r => if b = 0 then some (0, { s with S := r }) else (f s).bind fun s1 => (rRow f k s1).map fun p => (p.1 + 1, p.2)
def rPairs (s : RS) : Option RS := (rRow rText s.S.length s).bind fun p => if p.1 % 2 = 0 then some (rKeep p.1 p.2) else none
def rItem (s : RS) : Option RS := (rByte s).bind rText
def rFields (s : RS) : Option RS := (rRow rItem s.S.length (rKeep 0 s)).map fun p => { p.2 with N := p.2.N.set s.N.length p.1 }
def rCounted (f : RS → Option RS) (s : RS) : Option RS := (rSigned 2 s).bind fun p => if 0 ≤ p.1 ∧ p.1 ≤ 100 then rRep p.1.toNat f (rKeep p.1 p.2) else none
def rRaw (n : Int) (s : RS) : Option RS := (rTake n.toNat s).map fun p => { p.2 with T := p.2.T ++ [p.1] }
def rValue (s : RS) : Option RS := (rSigned 4 s).bind fun p => if -1 ≤ p.1 ∧ p.1 ≤ 10000 then (if p.1 < 0 then some (rKeep p.1 p.2) else rRaw p.1 (rKeep p.1 p.2)) else none
def rTail (s : RS) : Option RS := (rTake 18 s).bind fun p => if p.1 = List.replicate 18 0 then some p.2 else none
def rName (s : RS) : Option RS := (rText s).bind rTail
def rField (c : UInt8) (s : RS) : Option RS :=
  if c = 115 then rText s
  else if c = 98 then rByte s
  else if c = 105 then rLong s
  else if c = 112 then rPairs s
  else if c = 102 then rFields s
  else if c = 99 then rCounted rShort s
  else if c = 108 then rCounted rLong s
  else if c = 118 then rCounted rValue s
  else if c = 109 then rCounted rName s
  else some s
def rAll : Bs → RS → Option RS
  | [], s => some s
  | c :: l, s => (rField c s).bind (rAll l)

/-- The step of a writer, told by what it takes and what it puts. -/
def Fwd (w : WS → Option WS) (r : RS → Option RS) : Prop :=
  ∀ s s', w s = some s' → ∃ t n b, s.T = t ++ s'.T ∧ s.N = n ++ s'.N ∧ s'.B = s.B ++ b ∧ ∀ S T N, r ⟨b ++ S, T, N⟩ = some ⟨S, T ++ t, N ++ n⟩
def Bwd (w : WS → Option WS) (r : RS → Option RS) : Prop :=
  ∀ s s', r s = some s' → ∃ t n b, s.S = b ++ s'.S ∧ s'.T = s.T ++ t ∧ s'.N = s.N ++ n ∧ ∀ T N B, w ⟨t ++ T, n ++ N, B⟩ = some ⟨T, N, B ++ b⟩

theorem fwd_bind {w1 w2 : WS → Option WS} {r1 r2 : RS → Option RS} (h1 : Fwd w1 r1) (h2 : Fwd w2 r2) : Fwd (fun s => (w1 s).bind w2) (fun s => (r1 s).bind r2) := by
  intro s s' h
  replace h : (w1 s).bind w2 = some s' := h
  cases hx : w1 s with
  | none => rw [hx] at h; cases h
  | some s1 =>
    rw [hx] at h
    obtain ⟨t, n, b, e1, e2, e3, e4⟩ := h1 s s1 hx
    obtain ⟨t', n', b', g1, g2, g3, g4⟩ := h2 s1 s' h
    refine ⟨t ++ t', n ++ n', b ++ b', by rw [e1, g1, List.append_assoc], by rw [e2, g2, List.append_assoc], by rw [g3, e3, List.append_assoc], fun S T N => ?_⟩
    show (r1 ⟨b ++ b' ++ S, T, N⟩).bind r2 = _
    rw [List.append_assoc, e4]
    show r2 _ = _
    rw [g4, List.append_assoc, List.append_assoc]
theorem bwd_bind {w1 w2 : WS → Option WS} {r1 r2 : RS → Option RS} (h1 : Bwd w1 r1) (h2 : Bwd w2 r2) : Bwd (fun s => (w1 s).bind w2) (fun s => (r1 s).bind r2) := by
  intro s s' h
  replace h : (r1 s).bind r2 = some s' := h
  cases hx : r1 s with
  | none => rw [hx] at h; cases h
  | some s1 =>
    rw [hx] at h
    obtain ⟨t, n, b, e1, e2, e3, e4⟩ := h1 s s1 hx
    obtain ⟨t', n', b', g1, g2, g3, g4⟩ := h2 s1 s' h
    refine ⟨t ++ t', n ++ n', b ++ b', by rw [e1, g1, List.append_assoc], by rw [g2, e2, List.append_assoc], by rw [g3, e3, List.append_assoc], fun T N B => ?_⟩
    show (w1 ⟨t ++ t' ++ T, n ++ n' ++ N, B⟩).bind w2 = _
    rw [List.append_assoc, List.append_assoc, e4]
    show w2 _ = _
    rw [g4, List.append_assoc]
theorem fwd_some : Fwd some some := by
  rintro s s' h
  obtain rfl := Option.some.inj h
  exact ⟨[], [], [], rfl, rfl, (List.append_nil _).symm, fun S T N => by simp⟩
theorem bwd_some : Bwd some some := by
  rintro s s' h
  obtain rfl := Option.some.inj h
  exact ⟨[], [], [], rfl, (List.append_nil _).symm, (List.append_nil _).symm, fun S T N => by simp⟩
theorem fwd_rep {w : WS → Option WS} {r : RS → Option RS} (h : Fwd w r) : ∀ n, Fwd (rep n w) (rRep n r)
  | 0 => fwd_some
  | n + 1 => fwd_bind h (fwd_rep h n)
theorem bwd_rep {w : WS → Option WS} {r : RS → Option RS} (h : Bwd w r) : ∀ n, Bwd (rep n w) (rRep n r)
  | 0 => bwd_some
  | n + 1 => bwd_bind h (bwd_rep h n)

theorem take_pre (b S : Bs) (T : List Bs) (N : List Int) : rTake b.length ⟨b ++ S, T, N⟩ = some (b, ⟨S, T, N⟩) := by
  unfold rTake
  rw [if_pos (by show _ ≤ (b ++ S).length; rw [List.length_append]; omega)]
  simp
theorem take_out {k : Nat} {s s' : RS} {b : Bs} (h : rTake k s = some (b, s')) : s.S = b ++ s'.S ∧ b.length = k ∧ s'.T = s.T ∧ s'.N = s.N := by
  unfold rTake at h
  split at h
  · rename_i hk
    simp only [Option.some.injEq, Prod.mk.injEq] at h
    obtain ⟨rfl, rfl⟩ := h
    exact ⟨(List.take_append_drop _ _).symm, List.length_take_of_le hk, rfl, rfl⟩
  · cases h
theorem signed_pre (k : Nat) (n : Int) (S : Bs) (T : List Bs) (N : List Int) : rSigned k ⟨be k n ++ S, T, N⟩ = some (sgnM k (unsig (be k n)), ⟨S, T, N⟩) := by
  unfold rSigned
  have := take_pre (be k n) S T N
  rw [be_length] at this
  rw [this]; rfl
theorem unsigned_pre (k : Nat) (n : Int) (S : Bs) (T : List Bs) (N : List Int) : rUnsigned k ⟨be k n ++ S, T, N⟩ = some ((unsig (be k n) : Int), ⟨S, T, N⟩) := by
  unfold rUnsigned
  have := take_pre (be k n) S T N
  rw [be_length] at this
  rw [this]; rfl
theorem signed_out {k : Nat} {n : Int} {s s' : RS} (h : rSigned k s = some (n, s')) : ∃ b, s.S = b ++ s'.S ∧ b.length = k ∧ n = sgnM k (unsig b) ∧ be k n = b ∧ s'.T = s.T ∧ s'.N = s.N := by
  unfold rSigned at h
  cases hx : rTake k s with
  | none => rw [hx] at h; cases h
  | some p =>
    obtain ⟨b, s1⟩ := p
    rw [hx] at h
    simp only [Option.map_some, Option.some.injEq, Prod.mk.injEq] at h
    obtain ⟨rfl, rfl⟩ := h
    obtain ⟨e1, e2, e3, e4⟩ := take_out hx
    refine ⟨b, e1, e2, rfl, ?_, e3, e4⟩
    rw [← e2]; exact be_sgn b
theorem number_out {l m n : Int} {k : Nat} {s s' : WS} (h : wNumber l m k s = some (n, s')) : s.N = n :: s'.N ∧ s'.T = s.T ∧ s'.B = s.B ++ be k n ∧ l ≤ n ∧ n ≤ m := by
  have hr := number_range h
  unfold wNumber wNum at h
  cases hN : s.N with
  | nil => rw [hN] at h; cases h
  | cons x ns =>
    rw [hN] at h
    simp only at h
    split at h
    · simp only [Option.map_some, Option.some.injEq, Prod.mk.injEq] at h
      obtain ⟨rfl, rfl⟩ := h
      exact ⟨rfl, rfl, rfl, hr⟩
    · cases h
theorem number_in {l m n : Int} (k : Nat) (h : l ≤ n ∧ n ≤ m) (T : List Bs) (N : List Int) (B : Bs) : wNumber l m k ⟨T, n :: N, B⟩ = some (n, ⟨T, N, B ++ be k n⟩) := by
  unfold wNumber wNum
  simp only
  rw [if_pos h]; rfl
theorem fwd_num {l m : Int} {k : Nat} (hk : ∀ n, l ≤ n → n ≤ m → sgnM k (unsig (be k n)) = n) : Fwd (fun s => (wNumber l m k s).map (·.2)) (fun s => (rSigned k s).map fun p => rKeep p.1 p.2) := by
  intro s s' h
  cases hx : wNumber l m k s with
  | none => simp only [hx] at h; cases h
  | some p =>
    obtain ⟨n, s1⟩ := p
    simp only [hx] at h
    obtain rfl := Option.some.inj h
    obtain ⟨e1, e2, e3, e4, e5⟩ := number_out hx
    refine ⟨[], [n], be k n, by rw [e2]; rfl, by rw [e1]; rfl, e3, fun S T N => ?_⟩
    simp only [signed_pre, hk n e4 e5]
    simp [rKeep]
theorem bwd_num {l m : Int} {k : Nat} (hk : ∀ b : Bs, b.length = k → l ≤ sgnM k (unsig b) ∧ sgnM k (unsig b) ≤ m) : Bwd (fun s => (wNumber l m k s).map (·.2)) (fun s => (rSigned k s).map fun p => rKeep p.1 p.2) := by
  intro s s' h
  cases hx : rSigned k s with
  | none => simp only [hx] at h; cases h
  | some p =>
    obtain ⟨n, s1⟩ := p
    simp only [hx] at h
    obtain rfl := Option.some.inj h
    obtain ⟨b, e1, e2, e3, e4, e5, e6⟩ := signed_out hx
    refine ⟨[], [n], b, e1, by show s1.T = _; rw [e5, List.append_nil], by show s1.N ++ [n] = _; rw [e6], fun T N B => ?_⟩
    have hr := hk b e2
    rw [← e3] at hr
    show (wNumber l m k ⟨T, n :: N, B⟩).map _ = _
    rw [number_in k hr, e4]; rfl
theorem fwd_short : Fwd wShort rShort := fwd_num fun n h1 h2 => sgn_be2 n ⟨h1, h2⟩
theorem bwd_short : Bwd wShort rShort := bwd_num fun b h => sgn2_range b h
theorem fwd_long : Fwd wLong rLong := fwd_num fun n h1 h2 => sgn_be4 n ⟨h1, h2⟩
theorem bwd_long : Bwd wLong rLong := bwd_num fun b h => sgn4_range b h

theorem byte_pre (n : Int) (h : 0 ≤ n ∧ n ≤ 255) (S : Bs) (T : List Bs) (N : List Int) : rByte ⟨be 1 n ++ S, T, N⟩ = some ⟨S, T, N ++ [n]⟩ := by
  unfold rByte
  rw [unsigned_pre, unsig_be1 n h]; rfl
theorem byte_out {s s' : RS} (h : rByte s = some s') : ∃ c : UInt8, s.S = c :: s'.S ∧ s'.T = s.T ∧ s'.N = s.N ++ [(c.toNat : Int)] ∧ be 1 (c.toNat : Int) = [c] := by
  unfold rByte rUnsigned at h
  cases hx : rTake 1 s with
  | none => rw [hx] at h; cases h
  | some p =>
    obtain ⟨b, s1⟩ := p
    rw [hx] at h
    simp only [Option.map_some, Option.some.injEq] at h
    obtain rfl := h
    obtain ⟨e1, e2, e3, e4⟩ := take_out hx
    match b, e2 with
    | [c], _ =>
      have hu : unsig [c] = c.toNat := by simp [unsig]
      refine ⟨c, e1, e3, by rw [hu]; show s1.N ++ _ = _; rw [e4], ?_⟩
      have := be_unsig [c] 0
      rw [Int.zero_mul, Int.zero_add, hu] at this
      exact this
theorem fwd_byte : Fwd wByte rByte := by
  intro s s' h
  unfold wByte at h
  cases hx : wNumber 0 255 1 s with
  | none => rw [hx] at h; cases h
  | some p =>
    obtain ⟨n, s1⟩ := p
    rw [hx] at h
    obtain rfl := Option.some.inj h
    obtain ⟨e1, e2, e3, e4, e5⟩ := number_out hx
    exact ⟨[], [n], be 1 n, by rw [e2]; rfl, by rw [e1]; rfl, e3, fun S T N => by rw [byte_pre n ⟨e4, e5⟩, List.append_nil]⟩
theorem bwd_byte : Bwd wByte rByte := by
  intro s s' h
  obtain ⟨c, e1, e2, e3, e4⟩ := byte_out h
  have hc : c.toNat < 256 := UInt8.toNat_lt c
  refine ⟨[], [(c.toNat : Int)], [c], e1, by rw [e2, List.append_nil], e3, fun T N B => ?_⟩
  show (wNumber 0 255 1 ⟨T, (c.toNat : Int) :: N, B⟩).map _ = _
  rw [number_in 1 ⟨by omega, by omega⟩, e4]; rfl

theorem while_pre {t : Bs} (h : (0 : UInt8) ∉ t) (S : Bs) : (t ++ 0 :: S).takeWhile (· != 0) = t := by
  induction t with
  | nil => rfl
  | cons a t ih =>
    have ha : (a != 0) = true := bne_iff_ne.2 fun e => h (e ▸ List.mem_cons_self ..)
    rw [List.cons_append, List.takeWhile_cons, ha]
    exact congrArg (a :: ·) (ih fun h' => h (List.mem_cons_of_mem _ h'))
theorem while_out {l : Bs} (h : (0 : UInt8) ∈ l) : l = l.takeWhile (· != 0) ++ 0 :: l.drop ((l.takeWhile (· != 0)).length + 1) ∧ (0 : UInt8) ∉ l.takeWhile (· != 0) := by
  induction l with
  | nil => cases h
  | cons a l ih =>
    by_cases ha : a = 0
    · subst ha
      exact ⟨rfl, fun h => by cases h⟩
    · have hb : (a != 0) = true := bne_iff_ne.2 ha
      have hm : (0 : UInt8) ∈ l := (List.mem_cons.1 h).resolve_left fun e => ha e.symm
      obtain ⟨e1, e2⟩ := ih hm
      rw [List.takeWhile_cons, hb]
      refine ⟨?_, ?_⟩
      · show a :: l = a :: (l.takeWhile (· != 0) ++ 0 :: l.drop ((l.takeWhile (· != 0)).length + 1))
        rw [← e1]
      · intro h'
        rcases List.mem_cons.1 h' with h' | h'
        · exact ha h'.symm
        · exact e2 h'
theorem text_pre {t : Bs} (h : (0 : UInt8) ∉ t) (S : Bs) (T : List Bs) (N : List Int) : rText ⟨t ++ [0] ++ S, T, N⟩ = some ⟨S, T ++ [t], N⟩ := by
  unfold rText
  have e : t ++ [0] ++ S = t ++ 0 :: S := by simp
  simp only [e, while_pre h]
  rw [if_pos (by simp)]
  have : (t ++ 0 :: S).drop (t.length + 1) = S := by
    rw [← e, show t.length + 1 = (t ++ [0]).length by simp, List.drop_left]
  rw [this]
theorem text_out {s s' : RS} (h : rText s = some s') : ∃ t, s.S = t ++ [0] ++ s'.S ∧ (0 : UInt8) ∉ t ∧ s'.T = s.T ++ [t] ∧ s'.N = s.N := by
  unfold rText at h
  split at h
  · rename_i h0
    obtain rfl := Option.some.inj h
    obtain ⟨e1, e2⟩ := while_out h0
    exact ⟨_, by rw [List.append_assoc]; exact e1, e2, rfl, rfl⟩
  · cases h
theorem wtext_out {s s' : WS} (h : wText s = some s') : ∃ t, s.T = t :: s'.T ∧ (0 : UInt8) ∉ t ∧ s'.N = s.N ∧ s'.B = s.B ++ (t ++ [0]) := by
  unfold wText at h
  cases hT : s.T with
  | nil => rw [hT] at h; cases h
  | cons t ts =>
    rw [hT] at h
    simp only at h
    split at h
    · cases h
    · rename_i h0
      obtain rfl := Option.some.inj h
      exact ⟨t, rfl, h0, rfl, rfl⟩
theorem wtext_in {t : Bs} (h : (0 : UInt8) ∉ t) (T : List Bs) (N : List Int) (B : Bs) : wText ⟨t :: T, N, B⟩ = some ⟨T, N, B ++ (t ++ [0])⟩ := by
  unfold wText
  simp only
  rw [if_neg h]
theorem fwd_text : Fwd wText rText := by
  intro s s' h
  obtain ⟨t, e1, e2, e3, e4⟩ := wtext_out h
  exact ⟨[t], [], t ++ [0], e1, by rw [e3]; rfl, e4, fun S T N => by rw [text_pre e2, List.append_nil]⟩
theorem bwd_text : Bwd wText rText := by
  intro s s' h
  obtain ⟨t, e1, e2, e3, e4⟩ := text_out h
  exact ⟨[t], [], t ++ [0], e1, e3, by rw [e4, List.append_nil], fun T N B => wtext_in e2 T N B⟩
end Go.Proofs.YtmofnkinclckoaaGreatDoor
