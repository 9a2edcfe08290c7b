/- Contracts and mathematics: MRM, MRP, MRQ, DM, DK. -/
import Derived.Test.YtmofnkinclckoaaDoorZ1
import Derived.Test.YtmofnkinclckoaaDoorZ3
import Derived.Test.YtmofnkinclckoaaDoorZ4
import Derived.Deep.Cut
import Derived.Lib.QuoteBits
import Derived.Lib.ConvBytes
import Derived.Lib.SmallJoins
namespace Go.Proofs.YtmofnkinclckoaaDoor

/-- What is left of a body, and the texts and numbers so far. -/
structure RS where
  S : Bs
  T : List Bs
  N : List Int

def unsig : Bs → Nat
  | [] => 0
  | b :: l => b.toNat * 256 ^ l.length + unsig l
theorem unsig_lt : ∀ l : Bs, unsig l < 256 ^ l.length
  | [] => Nat.one_pos
  | b :: l => by
    have h1 := unsig_lt l
    have h2 : b.toNat < 256 := UInt8.toNat_lt b
    have h3 : b.toNat * 256 ^ l.length ≤ 255 * 256 ^ l.length := Nat.mul_le_mul_right _ (by omega)
    rw [unsig, List.length_cons, Nat.pow_succ]
    omega
theorem unsig_snoc : ∀ (l : Bs) (b : UInt8), unsig (l ++ [b]) = unsig l * 256 + b.toNat
  | [], b => by simp [unsig]
  | a :: l, b => by
    rw [List.cons_append, unsig, unsig_snoc l b, unsig, List.length_append, List.length_singleton, Nat.pow_succ, Nat.add_mul, Nat.mul_assoc, Nat.add_assoc]
theorem byteAt_toNat (n : Int) (i : Nat) : ((byteAt n i).toNat : Int) = (n / (256 ^ i : Nat)) % 256 := by
  unfold byteAt
  have h1 := Int.emod_nonneg (n / (256 ^ i : Nat)) (show (256 : Int) ≠ 0 by omega)
  have h2 := Int.emod_lt_of_pos (n / (256 ^ i : Nat)) (show (0 : Int) < 256 by omega)
  rw [UInt8.toNat_ofNat']
  have e : (n / (256 ^ i : Nat) % 256).toNat % 2 ^ 8 = (n / (256 ^ i : Nat) % 256).toNat := Nat.mod_eq_of_lt (by show _ < 256; omega)
  rw [e]
  omega
theorem unsig_be : ∀ (k : Nat) (n : Int), (unsig (be k n) : Int) = n % (256 ^ k : Nat)
  | 0, n => by simp [be, unsig, Int.emod_one]
  | k + 1, n => by
    rw [be, unsig, be_length, Int.natCast_add, Int.natCast_mul, byteAt_toNat, unsig_be k n, Nat.pow_succ]
    generalize hM : (256 ^ k : Nat) = M
    have hM0 : 0 < M := by rw [← hM]; exact Nat.pow_pos (by omega)
    have e1 := Int.emod_add_mul_ediv n (M : Int)
    have e2 := Int.emod_add_mul_ediv (n / (M : Int)) 256
    have r0 := Int.emod_nonneg n (show (M : Int) ≠ 0 by omega)
    have r1 := Int.emod_lt_of_pos n (show (0 : Int) < M by omega)
    have c0 := Int.emod_nonneg (n / (M : Int)) (show (256 : Int) ≠ 0 by omega)
    have c1 := Int.emod_lt_of_pos (n / (M : Int)) (show (0 : Int) < 256 by omega)
    generalize n / (M : Int) % 256 = c at *
    generalize n / (M : Int) / 256 = a at *
    generalize n / (M : Int) = q at *
    generalize n % (M : Int) = r at *
    have hc : c * (M : Int) ≤ 255 * M := Int.mul_le_mul_of_nonneg_right (by omega) (by omega)
    have hc0 : 0 ≤ c * (M : Int) := Int.mul_nonneg c0 (by omega)
    have e3 : n = (c * M + r) + ((M * 256 : Nat) : Int) * a := by
      rw [← e1, ← e2, Int.mul_add, Int.natCast_mul, Int.mul_assoc, Int.mul_comm c]
      show r + ((M : Int) * c + M * (256 * a)) = M * c + r + M * (256 * a)
      omega
    rw [e3, Int.add_mul_emod_self_left]
    exact (Int.emod_eq_of_lt (by omega) (by rw [Int.natCast_mul]; show _ < (M : Int) * 256; omega)).symm
theorem be_unsig : ∀ (l : Bs) (m : Int), be l.length (m * (256 ^ l.length : Nat) + unsig l) = l
  | [], _ => rfl
  | b :: l, m => by
    have hu := unsig_lt l
    have hb : b.toNat < 256 := UInt8.toNat_lt b
    have ih := be_unsig l (m * 256 + b.toNat)
    rw [List.length_cons, be, unsig, Nat.pow_succ]
    generalize hM : (256 ^ l.length : Nat) = M at *
    have hM0 : 0 < M := by rw [← hM]; exact Nat.pow_pos (by omega)
    have e : m * ((M * 256 : Nat) : Int) + ((b.toNat * M + unsig l : Nat) : Int) = (m * 256 + b.toNat) * M + unsig l := by
      rw [Int.natCast_add, Int.natCast_mul, Int.natCast_mul, Int.add_mul, Int.mul_assoc m 256, ← Int.mul_comm (M : Int) 256]
      show m * ((M : Int) * 256) + _ = _
      omega
    rw [e, ih]
    refine congrArg (· :: l) ?_
    apply UInt8.toNat_inj.1
    have := byteAt_toNat ((m * 256 + b.toNat) * (M : Int) + unsig l) l.length
    rw [hM, Int.add_comm, Int.add_mul_ediv_right _ _ (show (M : Int) ≠ 0 by omega), Int.ediv_eq_zero_of_lt (by omega) (by omega)] at this
    rw [← Int.add_comm (unsig l : Int)] 
    omega

/-- A number with its sign. -/
def sgnM (k : Nat) (n : Int) : Int := if ((256 ^ k : Nat) : Int) / 2 ≤ n then n - (256 ^ k : Nat) else n
theorem be_sgn (l : Bs) : be l.length (sgnM l.length (unsig l)) = l := by
  unfold sgnM
  split
  · have := be_unsig l (-1)
    rw [show (-1 : Int) * (256 ^ l.length : Nat) + unsig l = (unsig l : Int) - (256 ^ l.length : Nat) by omega] at this
    exact this
  · have := be_unsig l 0
    rw [Int.zero_mul, Int.zero_add] at this
    exact this
theorem sgn_be2 (n : Int) (h : -32768 ≤ n ∧ n ≤ 32767) : sgnM 2 (unsig (be 2 n)) = n := by
  rw [unsig_be]; unfold sgnM
  show (if (32768 : Int) ≤ n % 65536 then n % 65536 - 65536 else n % 65536) = n
  split <;> omega
theorem sgn_be4 (n : Int) (h : -2147483648 ≤ n ∧ n ≤ 2147483647) : sgnM 4 (unsig (be 4 n)) = n := by
  rw [unsig_be]; unfold sgnM
  show (if (2147483648 : Int) ≤ n % 4294967296 then n % 4294967296 - 4294967296 else n % 4294967296) = n
  split <;> omega
theorem unsig_be1 (n : Int) (h : 0 ≤ n ∧ n ≤ 255) : (unsig (be 1 n) : Int) = n := by
  rw [unsig_be]
  show n % 256 = n
  omega
end Go.Proofs.YtmofnkinclckoaaDoor

namespace Go.Proofs.YtmofnkinclckoaaDoor

def rTake (n : Nat) (s : RS) : Option (Bs × RS) := if n ≤ s.S.length then some (s.S.take n, { s with S := s.S.drop n }) else none
def rUnsigned (k : Nat) (s : RS) : Option (Int × RS) := (rTake k s).map fun p => ((unsig p.1 : Int), p.2)
def rSigned (k : Nat) (s : RS) : Option (Int × RS) := (rTake k s).map fun p => (sgnM k (unsig p.1), p.2)
def rKeep (n : Int) (s : RS) : RS := { s with N := s.N ++ [n] }
def rShort (s : RS) : Option RS := (rSigned 2 s).map fun p => rKeep p.1 p.2
def rLong (s : RS) : Option RS := (rSigned 4 s).map fun p => rKeep p.1 p.2
def rByte (s : RS) : Option RS := (rUnsigned 1 s).map fun p => rKeep p.1 p.2
def rText (s : RS) : Option RS := if (0 : UInt8) ∈ s.S then some { s with S := s.S.drop ((s.S.takeWhile (· != 0)).length + 1), T := s.T ++ [s.S.takeWhile (· != 0)] } else none
def rRep : Nat → (RS → Option RS) → RS → Option RS
  | 0, _, s => some s
  | n + 1, f, s => (f s).bind (rRep n f)
/-- Things up to a byte 0: how many. -/
def rRow (f : RS → Option RS) : Nat → RS → Option (Nat × RS)
  | 0, _ => none
  | k + 1, s => match s.S with
    | [] => none
    | b :: r => if b = 0 then some (0, { s with S := r }) else (f s).bind fun s1 => (rRow f k s1).map fun p => (p.1 + 1, p.2)
def rPairs (s : RS) : Option RS := (rRow rText s.S.length s).bind fun p => if p.1 % 2 = 0 then some (rKeep p.1 p.2) else none
def rItem (s : RS) : Option RS := (rByte s).bind rText
def rFields (s : RS) : Option RS := (rRow rItem s.S.length (rKeep 0 s)).map fun p => { p.2 with N := p.2.N.set s.N.length p.1 }
def rCounted (f : RS → Option RS) (s : RS) : Option RS := (rSigned 2 s).bind fun p => if 0 ≤ p.1 ∧ p.1 ≤ 100 then rRep p.1.toNat f (rKeep p.1 p.2) else none
def rRaw (n : Int) (s : RS) : Option RS := (rTake n.toNat s).map fun p => { p.2 with T := p.2.T ++ [p.1] }
def rValue (s : RS) : Option RS := (rSigned 4 s).bind fun p => if -1 ≤ p.1 ∧ p.1 ≤ 10000 then (if p.1 < 0 then some (rKeep p.1 p.2) else rRaw p.1 (rKeep p.1 p.2)) else none
def rTail (s : RS) : Option RS := (rTake 18 s).bind fun p => if p.1 = List.replicate 18 0 then some p.2 else none
def rName (s : RS) : Option RS := (rText s).bind rTail
def rField (c : UInt8) (s : RS) : Option RS :=
  if c = 115 then rText s
  else if c = 98 then rByte s
  else if c = 105 then rLong s
  else if c = 112 then rPairs s
  else if c = 102 then rFields s
  else if c = 99 then rCounted rShort s
  else if c = 108 then rCounted rLong s
  else if c = 118 then rCounted rValue s
  else if c = 109 then rCounted rName s
  else some s
def rAll : Bs → RS → Option RS
  | [], s => some s
  | c :: l, s => (rField c s).bind (rAll l)

/-- The step of a writer, told by what it takes and what it puts. -/
def Fwd (w : WS → Option WS) (r : RS → Option RS) : Prop :=
  ∀ s s', w s = some s' → ∃ t n b, s.T = t ++ s'.T ∧ s.N = n ++ s'.N ∧ s'.B = s.B ++ b ∧ ∀ S T N, r ⟨b ++ S, T, N⟩ = some ⟨S, T ++ t, N ++ n⟩
theorem fwd_bind {w1 w2 : WS → Option WS} {r1 r2 : RS → Option RS} (h1 : Fwd w1 r1) (h2 : Fwd w2 r2) : Fwd (fun s => (w1 s).bind w2) (fun s => (r1 s).bind r2) := by
  intro s s' h
  replace h : (w1 s).bind w2 = some s' := h
  cases hx : w1 s with
  | none => rw [hx] at h; cases h
  | some s1 =>
    rw [hx] at h
    obtain ⟨t, n, b, e1, e2, e3, e4⟩ := h1 s s1 hx
    obtain ⟨t', n', b', g1, g2, g3, g4⟩ := h2 s1 s' h
    refine ⟨t ++ t', n ++ n', b ++ b', by rw [e1, g1, List.append_assoc], by rw [e2, g2, List.append_assoc], by rw [g3, e3, List.append_assoc], fun S T N => ?_⟩
    show (r1 ⟨b ++ b' ++ S, T, N⟩).bind r2 = _
    rw [List.append_assoc, e4]
    show r2 _ = _
    rw [g4, List.append_assoc, List.append_assoc]
theorem fwd_some : Fwd some some := by
  rintro s s' h
  obtain rfl := Option.some.inj h
  exact ⟨[], [], [], rfl, rfl, (List.append_nil _).symm, fun S T N => by simp⟩
theorem fwd_rep {w : WS → Option WS} {r : RS → Option RS} (h : Fwd w r) : ∀ n, Fwd (rep n w) (rRep n r)
  | 0 => fwd_some
  | n + 1 => fwd_bind h (fwd_rep h n)
theorem take_pre (b S : Bs) (T : List Bs) (N : List Int) : rTake b.length ⟨b ++ S, T, N⟩ = some (b, ⟨S, T, N⟩) := by
  unfold rTake
  rw [if_pos (by show _ ≤ (b ++ S).length; rw [List.length_append]; omega)]
  simp
theorem take_out {k : Nat} {s s' : RS} {b : Bs} (h : rTake k s = some (b, s')) : s.S = b ++ s'.S ∧ b.length = k ∧ s'.T = s.T ∧ s'.N = s.N := by
  unfold rTake at h
  split at h
  · rename_i hk
    simp only [Option.some.injEq, Prod.mk.injEq] at h
    obtain ⟨rfl, rfl⟩ := h
    exact ⟨(List.take_append_drop _ _).symm, List.length_take_of_le hk, rfl, rfl⟩
  · cases h
theorem signed_pre (k : Nat) (n : Int) (S : Bs) (T : List Bs) (N : List Int) : rSigned k ⟨be k n ++ S, T, N⟩ = some (sgnM k (unsig (be k n)), ⟨S, T, N⟩) := by
  unfold rSigned
  have := take_pre (be k n) S T N
  rw [be_length] at this
  rw [this]; rfl
theorem unsigned_pre (k : Nat) (n : Int) (S : Bs) (T : List Bs) (N : List Int) : rUnsigned k ⟨be k n ++ S, T, N⟩ = some ((unsig (be k n) : Int), ⟨S, T, N⟩) := by
  unfold rUnsigned
  have := take_pre (be k n) S T N
  rw [be_length] at this
  rw [this]; rfl
theorem signed_out {k : Nat} {n : Int} {s s' : RS} (h : rSigned k s = some (n, s')) : ∃ b, s.S = b ++ s'.S ∧ b.length = k ∧ n = sgnM k (unsig b) ∧ be k n = b ∧ s'.T = s.T ∧ s'.N = s.N := by
  unfold rSigned at h
  cases hx : rTake k s with
  | none => rw [hx] at h; cases h
  | some p =>
    obtain ⟨b, s1⟩ := p
    rw [hx] at h
    simp only [Option.map_some, Option.some.injEq, Prod.mk.injEq] at h
    obtain ⟨rfl, rfl⟩ := h
    obtain ⟨e1, e2, e3, e4⟩ := take_out hx
    refine ⟨b, e1, e2, rfl, ?_, e3, e4⟩
    rw [← e2]; exact be_sgn b
theorem number_out {l m n : Int} {k : Nat} {s s' : WS} (h : wNumber l m k s = some (n, s')) : s.N = n :: s'.N ∧ s'.T = s.T ∧ s'.B = s.B ++ be k n ∧ l ≤ n ∧ n ≤ m := by
  have hr := number_range h
  unfold wNumber wNum at h
  cases hN : s.N with
  | nil => rw [hN] at h; cases h
  | cons x ns =>
    rw [hN] at h
    simp only at h
    split at h
    · simp only [Option.map_some, Option.some.injEq, Prod.mk.injEq] at h
      obtain ⟨rfl, rfl⟩ := h
      exact ⟨rfl, rfl, rfl, hr⟩
    · cases h
theorem fwd_num {l m : Int} {k : Nat} (hk : ∀ n, l ≤ n → n ≤ m → sgnM k (unsig (be k n)) = n) : Fwd (fun s => (wNumber l m k s).map (·.2)) (fun s => (rSigned k s).map fun p => rKeep p.1 p.2) := by
  intro s s' h
  cases hx : wNumber l m k s with
  | none => simp only [hx] at h; cases h
  | some p =>
    obtain ⟨n, s1⟩ := p
    simp only [hx] at h
    obtain rfl := Option.some.inj h
    obtain ⟨e1, e2, e3, e4, e5⟩ := number_out hx
    refine ⟨[], [n], be k n, by rw [e2]; rfl, by rw [e1]; rfl, e3, fun S T N => ?_⟩
    simp only [signed_pre, hk n e4 e5]
    simp [rKeep]
theorem fwd_short : Fwd wShort rShort := fwd_num fun n h1 h2 => sgn_be2 n ⟨h1, h2⟩
theorem fwd_long : Fwd wLong rLong := fwd_num fun n h1 h2 => sgn_be4 n ⟨h1, h2⟩
theorem byte_pre (n : Int) (h : 0 ≤ n ∧ n ≤ 255) (S : Bs) (T : List Bs) (N : List Int) : rByte ⟨be 1 n ++ S, T, N⟩ = some ⟨S, T, N ++ [n]⟩ := by
  unfold rByte
  rw [unsigned_pre, unsig_be1 n h]; rfl
theorem byte_out {s s' : RS} (h : rByte s = some s') : ∃ c : UInt8, s.S = c :: s'.S ∧ s'.T = s.T ∧ s'.N = s.N ++ [(c.toNat : Int)] ∧ be 1 (c.toNat : Int) = [c] := by
  unfold rByte rUnsigned at h
  cases hx : rTake 1 s with
  | none => rw [hx] at h; cases h
  | some p =>
    obtain ⟨b, s1⟩ := p
    rw [hx] at h
    simp only [Option.map_some, Option.some.injEq] at h
    obtain rfl := h
    obtain ⟨e1, e2, e3, e4⟩ := take_out hx
    match b, e2 with
    | [c], _ =>
      have hu : unsig [c] = c.toNat := by simp [unsig]
      refine ⟨c, e1, e3, by rw [hu]; show s1.N ++ _ = _; rw [e4], ?_⟩
      have := be_unsig [c] 0
      rw [Int.zero_mul, Int.zero_add, hu] at this
      exact this
theorem fwd_byte : Fwd wByte rByte := by
  intro s s' h
  unfold wByte at h
  cases hx : wNumber 0 255 1 s with
  | none => rw [hx] at h; cases h
  | some p =>
    obtain ⟨n, s1⟩ := p
    rw [hx] at h
    obtain rfl := Option.some.inj h
    obtain ⟨e1, e2, e3, e4, e5⟩ := number_out hx
    exact ⟨[], [n], be 1 n, by rw [e2]; rfl, by rw [e1]; rfl, e3, fun S T N => by rw [byte_pre n ⟨e4, e5⟩, List.append_nil]⟩
theorem while_pre {t : Bs} (h : (0 : UInt8) ∉ t) (S : Bs) : (t ++ 0 :: S).takeWhile (· != 0) = t := by
  induction t with
  | nil => rfl
  | cons a t ih =>
    have ha : (a != 0) = true := bne_iff_ne.2 fun e => h (e ▸ List.mem_cons_self ..)
    rw [List.cons_append, List.takeWhile_cons, ha]
    exact congrArg (a :: ·) (ih fun h' => h (List.mem_cons_of_mem _ h'))
theorem while_out {l : Bs} (h : (0 : UInt8) ∈ l) : l = l.takeWhile (· != 0) ++ 0 :: l.drop ((l.takeWhile (· != 0)).length + 1) ∧ (0 : UInt8) ∉ l.takeWhile (· != 0) := by
  induction l with
  | nil => cases h
  | cons a l ih =>
    by_cases ha : a = 0
    · subst ha
      exact ⟨rfl, fun h => by cases h⟩
    · have hb : (a != 0) = true := bne_iff_ne.2 ha
      have hm : (0 : UInt8) ∈ l := (List.mem_cons.1 h).resolve_left fun e => ha e.symm
      obtain ⟨e1, e2⟩ := ih hm
      rw [List.takeWhile_cons, hb]
      refine ⟨?_, ?_⟩
      · show a :: l = a :: (l.takeWhile (· != 0) ++ 0 :: l.drop ((l.takeWhile (· != 0)).length + 1))
        rw [← e1]
      · intro h'
        rcases List.mem_cons.1 h' with h' | h'
        · exact ha h'.symm
        · exact e2 h'
theorem text_pre {t : Bs} (h : (0 : UInt8) ∉ t) (S : Bs) (T : List Bs) (N : List Int) : rText ⟨t ++ [0] ++ S, T, N⟩ = some ⟨S, T ++ [t], N⟩ := by
  unfold rText
  have e : t ++ [0] ++ S = t ++ 0 :: S := by simp
  simp only [e, while_pre h]
  rw [if_pos (by simp)]
  have : (t ++ 0 :: S).drop (t.length + 1) = S := by
    rw [← e, show t.length + 1 = (t ++ [0]).length by simp, List.drop_left]
  rw [this]
theorem text_out {s s' : RS} (h : rText s = some s') : ∃ t, s.S = t ++ [0] ++ s'.S ∧ (0 : UInt8) ∉ t ∧ s'.T = s.T ++ [t] ∧ s'.N = s.N := by
  unfold rText at h
  split at h
  · rename_i h0
    obtain rfl := Option.some.inj h
    obtain ⟨e1, e2⟩ := while_out h0
    exact ⟨_, by rw [List.append_assoc]; exact e1, e2, rfl, rfl⟩
  · cases h
theorem wtext_out {s s' : WS} (h : wText s = some s') : ∃ t, s.T = t :: s'.T ∧ (0 : UInt8) ∉ t ∧ s'.N = s.N ∧ s'.B = s.B ++ (t ++ [0]) := by
  unfold wText at h
  cases hT : s.T with
  | nil => rw [hT] at h; cases h
  | cons t ts =>
    rw [hT] at h
    simp only at h
    split at h
    · cases h
    · rename_i h0
      obtain rfl := Option.some.inj h
      exact ⟨t, rfl, h0, rfl, rfl⟩
theorem fwd_text : Fwd wText rText := by
  intro s s' h
  obtain ⟨t, e1, e2, e3, e4⟩ := wtext_out h
  exact ⟨[t], [], t ++ [0], e1, by rw [e3]; rfl, e4, fun S T N => by rw [text_pre e2, List.append_nil]⟩
end Go.Proofs.YtmofnkinclckoaaDoor

namespace Go.Proofs.YtmofnkinclckoaaDoor

/-- A step that puts a byte that is not 0 first. -/
def FwdC (q : List Int → Prop) (w : WS → Option WS) (r : RS → Option RS) : Prop :=
  ∀ s s', w s = some s' → ∃ t n c b, s.T = t ++ s'.T ∧ s.N = n ++ s'.N ∧ s'.B = s.B ++ c :: b ∧ c ≠ 0 ∧ q n ∧ ∀ S T N, r ⟨c :: b ++ S, T, N⟩ = some ⟨S, T ++ t, N ++ n⟩
theorem fwd_row {q : List Int → Prop} {w : WS → Option WS} {r : RS → Option RS} (q0 : q []) (q2 : ∀ a b, q a → q b → q (a ++ b)) (h : FwdC q w r) :
    ∀ m s s', rep m w s = some s' → ∃ t n b, s.T = t ++ s'.T ∧ s.N = n ++ s'.N ∧ s'.B = s.B ++ b ∧ q n ∧ ∀ k S T N, b.length < k → rRow r k ⟨b ++ 0 :: S, T, N⟩ = some (m, ⟨S, T ++ t, N ++ n⟩) := by
  intro m
  induction m with
  | zero =>
    intro s s' hs
    obtain rfl := Option.some.inj hs
    refine ⟨[], [], [], rfl, rfl, (List.append_nil _).symm, q0, fun k S T N hk => ?_⟩
    obtain ⟨k, rfl⟩ : ∃ j, k = j + 1 := ⟨k - 1, by simp at hk; omega⟩
    simp [rRow]
  | succ m ih =>
    intro s s' hs
    rw [rep] at hs
    cases hx : w s with
    | none => rw [hx] at hs; cases hs
    | some s1 =>
      rw [hx] at hs
      obtain ⟨t, n, c, b, e1, e2, e3, hc, hq, e4⟩ := h s s1 hx
      obtain ⟨t', n', b', g1, g2, g3, hq', g4⟩ := ih s1 s' hs
      refine ⟨t ++ t', n ++ n', c :: b ++ b', by rw [e1, g1, List.append_assoc], by rw [e2, g2, List.append_assoc], by rw [g3, e3, List.append_assoc], q2 _ _ hq hq', fun k S T N hk => ?_⟩
      obtain ⟨k, rfl⟩ : ∃ j, k = j + 1 := ⟨k - 1, by omega⟩
      have hk' : b'.length < k := by simp at hk; omega
      rw [rRow]
      show (if c = 0 then _ else _) = _
      rw [if_neg hc, List.append_assoc, e4]
      show (rRow r k ⟨b' ++ 0 :: S, _, _⟩).map _ = _
      rw [g4 k S _ _ hk']
      simp
theorem fwd_pair : FwdC (· = []) wPair rText := by
  intro s s' h
  unfold wPair at h
  cases hT : s.T with
  | nil => rw [hT] at h; cases h
  | cons t ts =>
    rw [hT] at h
    simp only at h
    split at h
    · cases h
    · rename_i hne
      obtain ⟨t1, e1, e2, e3, e4⟩ := wtext_out h
      rw [hT] at e1
      obtain ⟨rfl, e1⟩ := List.cons.inj e1
      match t, hne, e2 with
      | c :: b, _, e2 =>
        refine ⟨[c :: b], [], c, b ++ [0], by rw [e1]; rfl, by rw [e3]; rfl, by rw [e4]; simp, fun e => e2 (e ▸ List.mem_cons_self ..), rfl, fun S T N => ?_⟩
        have := text_pre e2 S T N
        rw [List.append_nil]
        exact this
theorem num_out {l m n : Int} {s s' : WS} (h : wNum l m s = some (n, s')) : s.N = n :: s'.N ∧ s'.T = s.T ∧ s'.B = s.B ∧ l ≤ n ∧ n ≤ m := by
  have hr := num_range h
  unfold wNum at h
  cases hN : s.N with
  | nil => rw [hN] at h; cases h
  | cons x ns =>
    rw [hN] at h
    simp only at h
    split at h
    · simp only [Option.some.injEq, Prod.mk.injEq] at h
      obtain ⟨rfl, rfl⟩ := h
      exact ⟨rfl, rfl, rfl, hr⟩
    · cases h
theorem fwd_pairs : Fwd wPairs rPairs := by
  intro s s' h
  unfold wPairs at h
  cases hx : wNum 0 s.T.length s with
  | none => rw [hx] at h; cases h
  | some p =>
    obtain ⟨n, s1⟩ := p
    rw [hx] at h
    simp only [Option.bind_some] at h
    split at h
    · rename_i hpar
      cases hy : rep n.toNat wPair s1 with
      | none => rw [hy] at h; cases h
      | some s2 =>
        rw [hy] at h
        obtain rfl := Option.some.inj h
        obtain ⟨e1, e2, e3, e4, e5⟩ := num_out hx
        obtain ⟨t, nn, b, g1, g2, g3, rfl, g4⟩ := fwd_row (q := (· = [])) rfl (by rintro _ _ rfl rfl; rfl) fwd_pair _ _ _ hy
        refine ⟨t, [n], b ++ [0], by rw [← e2, g1]; rfl, by rw [e1, g2]; rfl, by show s2.B ++ [0] = _; rw [g3, e3, List.append_assoc], fun S T N => ?_⟩
        unfold rPairs
        have e : b ++ [0] ++ S = b ++ 0 :: S := by simp
        simp only [e]
        rw [g4 _ S T N (by simp)]
        simp only [Option.bind_some]
        rw [if_pos (by omega)]
        unfold rKeep
        rw [show ((n.toNat : Nat) : Int) = n by omega]
        simp
    · cases h
theorem fwd_item : FwdC (fun _ => True) wItem rItem := by
  intro s s' h
  unfold wItem at h
  cases hx : wNumber 1 255 1 s with
  | none => rw [hx] at h; cases h
  | some p =>
    obtain ⟨n, s1⟩ := p
    rw [hx] at h
    simp only [Option.bind_some] at h
    obtain ⟨e1, e2, e3, e4, e5⟩ := number_out hx
    obtain ⟨t, g1, g2, g3, g4⟩ := wtext_out h
    have hb : be 1 n = [byteAt n 0] := rfl
    have hc : byteAt n 0 ≠ 0 := by
      intro e
      have := byteAt_toNat n 0
      rw [e] at this
      simp at this
      omega
    refine ⟨[t], [n], byteAt n 0, t ++ [0], by rw [← e2]; exact g1, by rw [e1, g3]; rfl, by rw [g4, e3, hb]; simp, hc, trivial, fun S T N => ?_⟩
    unfold rItem
    have := byte_pre n ⟨by omega, e5⟩ (t ++ [0] ++ S) T N
    rw [hb] at this
    show (rByte ⟨[byteAt n 0] ++ (t ++ [0] ++ S), T, N⟩).bind rText = _
    rw [this]
    exact text_pre g2 S T _
theorem set_mid {α : Type} (a : List α) (x y : α) (b : List α) : (a ++ x :: b).set a.length y = a ++ y :: b := by
  induction a with
  | nil => rfl
  | cons c a ih => rw [List.cons_append, List.length_cons, List.set_cons_succ, ih]; rfl
theorem fwd_fields : Fwd wFields rFields := by
  intro s s' h
  unfold wFields at h
  cases hx : wNum 0 s.T.length s with
  | none => rw [hx] at h; cases h
  | some p =>
    obtain ⟨n, s1⟩ := p
    rw [hx] at h
    simp only [Option.bind_some] at h
    cases hy : rep n.toNat wItem s1 with
    | none => rw [hy] at h; cases h
    | some s2 =>
      rw [hy] at h
      obtain rfl := Option.some.inj h
      obtain ⟨e1, e2, e3, e4, e5⟩ := num_out hx
      obtain ⟨t, nn, b, g1, g2, g3, _, g4⟩ := fwd_row (q := fun _ => True) trivial (fun _ _ _ _ => trivial) fwd_item _ _ _ hy
      refine ⟨t, n :: nn, b ++ [0], by rw [← e2, g1]; rfl, by rw [e1, g2]; rfl, by show s2.B ++ [0] = _; rw [g3, e3, List.append_assoc], fun S T N => ?_⟩
      unfold rFields rKeep
      have e : b ++ [0] ++ S = b ++ 0 :: S := by simp
      simp only [e]
      rw [g4 _ S T (N ++ [0]) (by simp)]
      simp only [Option.map_some]
      rw [show ((n.toNat : Nat) : Int) = n by omega, List.append_assoc, List.singleton_append, set_mid]
theorem fwd_counted {f : WS → Option WS} {r : RS → Option RS} (h : Fwd f r) : Fwd (wCounted f) (rCounted r) := by
  intro s s' hs
  unfold wCounted at hs
  cases hx : wNumber 0 100 2 s with
  | none => rw [hx] at hs; cases hs
  | some p =>
    obtain ⟨n, s1⟩ := p
    rw [hx] at hs
    simp only [Option.bind_some] at hs
    obtain ⟨e1, e2, e3, e4, e5⟩ := number_out hx
    obtain ⟨t, nn, b, g1, g2, g3, g4⟩ := fwd_rep h _ _ _ hs
    refine ⟨t, n :: nn, be 2 n ++ b, by rw [← e2]; exact g1, by rw [e1, g2]; rfl, by rw [g3, e3, List.append_assoc], fun S T N => ?_⟩
    unfold rCounted
    rw [List.append_assoc, signed_pre, sgn_be2 n ⟨by omega, by omega⟩]
    simp only [Option.bind_some]
    rw [if_pos ⟨e4, e5⟩]
    unfold rKeep
    rw [g4]
    simp
theorem fwd_value : Fwd wValue rValue := by
  intro s s' hs
  unfold wValue at hs
  cases hx : wNumber (-1) 10000 4 s with
  | none => rw [hx] at hs; cases hs
  | some p =>
    obtain ⟨n, s1⟩ := p
    rw [hx] at hs
    simp only [Option.bind_some] at hs
    obtain ⟨e1, e2, e3, e4, e5⟩ := number_out hx
    split at hs
    · rename_i hn
      obtain rfl := Option.some.inj hs
      refine ⟨[], [n], be 4 n, by rw [e2]; rfl, by rw [e1]; rfl, e3, fun S T N => ?_⟩
      unfold rValue
      rw [signed_pre, sgn_be4 n ⟨by omega, by omega⟩]
      simp only [Option.bind_some]
      rw [if_pos ⟨e4, e5⟩, if_pos hn]
      simp [rKeep]
    · rename_i hn
      unfold wRaw at hs
      cases hT : s1.T with
      | nil => rw [hT] at hs; cases hs
      | cons t ts =>
        rw [hT] at hs
        simp only at hs
        split at hs
        · rename_i hl
          obtain rfl := Option.some.inj hs
          refine ⟨[t], [n], be 4 n ++ t, by rw [← e2, hT]; rfl, by rw [e1]; rfl, by show s1.B ++ t = _; rw [e3, List.append_assoc], fun S T N => ?_⟩
          unfold rValue
          rw [List.append_assoc, signed_pre, sgn_be4 n ⟨by omega, by omega⟩]
          simp only [Option.bind_some]
          rw [if_pos ⟨e4, e5⟩, if_neg hn]
          unfold rRaw rKeep
          have := take_pre t S T (N ++ [n])
          rw [show n.toNat = t.length by omega, this]
          rfl
        · cases hs
def wTail (s : WS) : Option WS := some { s with B := s.B ++ List.replicate 18 0 }
theorem name_tail : wName = fun s => (wText s).bind wTail := by
  funext s
  unfold wName wTail
  cases wText s <;> rfl
theorem fwd_tail : Fwd wTail rTail := by
  intro s s' h
  obtain rfl := Option.some.inj h
  refine ⟨[], [], List.replicate 18 0, rfl, rfl, rfl, fun S T N => ?_⟩
  unfold rTail
  have := take_pre (List.replicate 18 0) S T N
  rw [List.length_replicate] at this
  rw [this]
  simp
theorem fwd_name : Fwd wName rName := by rw [name_tail]; exact fwd_bind fwd_text fwd_tail
theorem fwd_field (c : UInt8) : Fwd (wField c) (rField c) := by
  unfold wField rField
  by_cases h : c = 115
  · simp only [if_pos h]; exact fwd_text
  simp only [if_neg h]; clear h
  by_cases h : c = 98
  · simp only [if_pos h]; exact fwd_byte
  simp only [if_neg h]; clear h
  by_cases h : c = 105
  · simp only [if_pos h]; exact fwd_long
  simp only [if_neg h]; clear h
  by_cases h : c = 112
  · simp only [if_pos h]; exact fwd_pairs
  simp only [if_neg h]; clear h
  by_cases h : c = 102
  · simp only [if_pos h]; exact fwd_fields
  simp only [if_neg h]; clear h
  by_cases h : c = 99
  · simp only [if_pos h]; exact fwd_counted fwd_short
  simp only [if_neg h]; clear h
  by_cases h : c = 108
  · simp only [if_pos h]; exact fwd_counted fwd_long
  simp only [if_neg h]; clear h
  by_cases h : c = 118
  · simp only [if_pos h]; exact fwd_counted fwd_value
  simp only [if_neg h]; clear h
  by_cases h : c = 109
  · simp only [if_pos h]; exact fwd_counted fwd_name
  simp only [if_neg h]; exact fwd_some
theorem fwd_all : ∀ l, Fwd (wAll l) (rAll l)
  | [] => fwd_some
  | c :: l => fwd_bind (fwd_field c) (fwd_all l)
/-- The layout of a body. -/
def isCancel (S : Bs) : Bool := decide (4 ≤ S.length ∧ sgnM 4 (unsig (S.take 4)) = 80877102)
def layR (back : Bool) (c : UInt8) (S : Bs) : Option Bs := if back = false ∧ c = 0 ∧ isCancel S = true then some [105, 105, 105] else lay back c
def rDone (s : RS) : Option (List Bs × List Int) := if s.S = [] then some (s.T, s.N) else none
def readL (back : Bool) (c : UInt8) (S : Bs) : Option (List Bs × List Int) := (layR back c S).bind fun l => (rAll l ⟨S, [], []⟩).bind rDone

theorem first_w {l : Bs} {T : List Bs} {N : List Int} {s' : WS} (h : wAll (105 :: l) ⟨T, N, []⟩ = some s') : isCancel s'.B = decide (N.head? = some 80877102) := by
  have h1 : ((wLong ⟨T, N, []⟩).bind (wAll l)) = some s' := h
  cases hx : wLong ⟨T, N, []⟩ with
  | none => rw [hx] at h1; cases h1
  | some s1 =>
    rw [hx] at h1
    obtain ⟨_, _, b', _, _, g3, _⟩ := fwd_all l s1 s' h1
    unfold wLong at hx
    cases hy : wNumber (-2147483648) 2147483647 4 ⟨T, N, []⟩ with
    | none => rw [hy] at hx; cases hx
    | some p =>
      obtain ⟨n, s2⟩ := p
      rw [hy] at hx
      obtain rfl := Option.some.inj hx
      obtain ⟨e1, e2, e3, e4, e5⟩ := number_out hy
      have e1' : N = n :: s2.N := e1
      have e3' : s2.B = [] ++ be 4 n := e3
      have g3' : s'.B = be 4 n ++ b' := by rw [g3]; show s2.B ++ b' = _; rw [e3']; rfl
      rw [g3', e1']
      unfold isCancel
      have hl : (be 4 n).length = 4 := be_length 4 n
      rw [List.take_append_of_le_length (by omega), List.take_of_length_le (by omega), sgn_be4 n ⟨e4, e5⟩]
      simp [hl]
theorem lay_bare : lay false 0 = some [105, 112] := rfl
theorem read_of_written {back : Bool} {c : UInt8} {T : List Bs} {N : List Int} {B : Bs} (h : written back c T N = some B) : readL back c B = some (T, N) := by
  unfold written at h
  cases hl : layW back c N with
  | none => rw [hl] at h; cases h
  | some l =>
    rw [hl] at h
    simp only [Option.bind_some] at h
    cases hx : wAll l ⟨T, N, []⟩ with
    | none => rw [hx] at h; cases h
    | some s' =>
      rw [hx] at h
      simp only [Option.bind_some] at h
      unfold wDone at h
      split at h
      · rename_i hd
        obtain rfl := Option.some.inj h
        obtain ⟨t, n, b, e1, e2, e3, e4⟩ := fwd_all l _ _ hx
        have e1' : T = t := by rw [show T = t ++ s'.T from e1, hd.1, List.append_nil]
        have e2' : N = n := by rw [show N = n ++ s'.N from e2, hd.2, List.append_nil]
        have e3' : s'.B = b := e3
        have hL : layR back c s'.B = some l := by
          unfold layW at hl
          unfold layR
          by_cases hb : back = false ∧ c = 0
          · obtain ⟨rfl, rfl⟩ := hb
            by_cases hc : N.head? = some 80877102
            · rw [if_pos ⟨rfl, rfl, hc⟩] at hl
              obtain rfl := Option.some.inj hl
              rw [if_pos ⟨rfl, rfl, by rw [first_w hx, hc]; rfl⟩]
            · rw [if_neg (fun h => hc h.2.2)] at hl
              rw [lay_bare] at hl
              obtain rfl := Option.some.inj hl
              rw [if_neg (fun h => by rw [first_w hx] at h; exact hc (of_decide_eq_true h.2.2))]
              rfl
          · rw [if_neg (fun h => hb ⟨h.1, h.2.1⟩)] at hl
            rw [if_neg (fun h => hb ⟨h.1, h.2.1⟩)]
            exact hl
        unfold readL
        rw [hL]
        simp only [Option.bind_some]
        have := e4 [] [] []
        rw [List.append_nil] at this
        rw [e3', this]
        simp [rDone, e1', e2']
      · cases h
end Go.Proofs.YtmofnkinclckoaaDoor

namespace Go.Proofs.YtmofnkinclckoaaDoor
open Go.RowKit Go.Lib Go.WideShapes

def tcells (T : List Bs) : List Value := T.map fun t => .string ⟨t.toArray⟩
def ncells (N : List Int) : List Value := N.map fun n => .int .i64 n
theorem tcells_length (T : List Bs) : (tcells T).length = T.length := by simp [tcells]
theorem tcells_append (a b : List Bs) : tcells (a ++ b) = tcells a ++ tcells b := by simp [tcells]
theorem ncells_append (a b : List Int) : ncells (a ++ b) = ncells a ++ ncells b := by simp [ncells]

/-- A reader that was made behind w0. -/
structure DAt (w0 w : World) (s : RS) (tv nv : Value) : Prop where
  below : Below w0.heap.size w0 w
  lt : w0.heap.size < w.heap.size
  c0 : w.cell? ⟨w0.heap.size, 0, none⟩ = some (.string ⟨s.S.toArray⟩)
  c1 : w.cell? ⟨w0.heap.size, 1, none⟩ = some tv
  c2 : w.cell? ⟨w0.heap.size, 2, none⟩ = some nv
  f0 : w.frozen? ⟨w0.heap.size, 0, none⟩ = false
  f1 : w.frozen? ⟨w0.heap.size, 1, none⟩ = false
  f2 : w.frozen? ⟨w0.heap.size, 2, none⟩ = false
  texts : w.ownsRow (w0.heap.size + 1) 9 1 tv s.T.length (tcells s.T)
  nums : w.ownsRow (w0.heap.size + 1) 3 1 nv s.N.length (ncells s.N)
def IsD (w0 w : World) (s : RS) : Prop := ∃ tv nv, DAt w0 w s tv nv

/-- What an operation of a reader leaves. -/
def DOut (w0 : World) (r : Option RS) (e : Ending) (w' : World) : Prop := (∃ s', r = some s' ∧ e = .returned (.tuple #[]) ∧ IsD w0 w' s') ∨ (r = none ∧ Lost w0 e w')
def DOutN (w0 : World) (r : Option (Int × RS)) (e : Ending) (w' : World) : Prop := (∃ n s', r = some (n, s') ∧ e = .returned (.int .i64 n) ∧ IsD w0 w' s') ∨ (r = none ∧ Lost w0 e w')
def DOutS (w0 : World) (r : Option (Bs × RS)) (e : Ending) (w' : World) : Prop := (∃ b s', r = some (b, s') ∧ e = .returned (.string ⟨b.toArray⟩) ∧ IsD w0 w' s') ∨ (r = none ∧ Lost w0 e w')

theorem DAt.put0 {w0 w : World} {s : RS} {tv nv : Value} (h : DAt w0 w s tv nv) (S : Bs) : DAt w0 (w.setCell ⟨w0.heap.size, 0, none⟩ (.string ⟨S.toArray⟩)) { s with S := S } tv nv := by
  have n1 : (⟨w0.heap.size, 0, none⟩ : Addr) ≠ ⟨w0.heap.size, 1, none⟩ := by intro e; injection e with _ e; cases e
  have n2 : (⟨w0.heap.size, 0, none⟩ : Addr) ≠ ⟨w0.heap.size, 2, none⟩ := by intro e; injection e with _ e; cases e
  exact ⟨h.below.setCell (Nat.le_refl _) _, by rw [World.size_setCell]; exact h.lt, World.cell?_setCell_same _ _ _ h.c0, (World.cell?_setCell_other _ _ _ _ n1).trans h.c1, (World.cell?_setCell_other _ _ _ _ n2).trans h.c2, by rw [World.frozen?_setCell]; exact h.f0, by rw [World.frozen?_setCell]; exact h.f1, by rw [World.frozen?_setCell]; exact h.f2, own_other h.texts, own_other h.nums⟩
theorem DAt.drew {w0 w : World} {s : RS} {tv nv : Value} (h : DAt w0 w s tv nv) : DAt w0 w.drew s tv nv :=
  ⟨h.below.drew, h.lt, h.c0, h.c1, h.c2, h.f0, h.f1, h.f2, h.texts.drew, h.nums.drew⟩
theorem DAt.drewN {w0 w : World} {s : RS} {tv nv : Value} (h : DAt w0 w s tv nv) (n : Nat) : DAt w0 (w.drewN n) s tv nv :=
  ⟨below_drewN h.below n, h.lt, h.c0, h.c1, h.c2, h.f0, h.f1, h.f2, h.texts, h.nums⟩
/-- Two rows of other types lie in other blocks. -/
theorem own_apart {w : World} {b1 b2 : Nat} {e1 e2 : TypeId} {v1 v2 : Value} {n1 n2 : Nat} {xs1 xs2 : List Value} (h1 : w.ownsRow b1 e1 1 v1 n1 xs1) (h2 : w.ownsRow b2 e2 1 v2 n2 xs2) (hne : e1 ≠ e2) : v2.ownBlock = none ∨ v2.ownBlock ≠ v1.ownBlock := by
  rcases h2.2 with ⟨hv, _⟩ | ⟨g, cap, cur, hv, _, hg, _⟩
  · left; rw [hv]; rfl
  · right
    rcases h1.2 with ⟨hv1, _⟩ | ⟨g1, cap1, cur1, hv1, _, hg1, _⟩
    · rw [hv, hv1]; intro e; cases e
    · rw [hv, hv1]
      intro e
      have e' : g = g1 := Option.some.inj e
      subst e'
      rw [hg] at hg1
      injection hg1 with hg1
      injection hg1 with _ ht _
      exact hne ht.symm
/-- The world grew but for the row of texts: then the cell of the texts was written. -/
theorem DAt.put1 {w0 w w1 : World} {s : RS} {tv nv tv' : Value} {T : List Bs} (h : DAt w0 w s tv nv) (hB : Below (w0.heap.size + 1) w w1) (hb : w1.ownsRow (w0.heap.size + 1) 9 1 tv' T.length (tcells T)) (hn : w1.ownsRow (w0.heap.size + 1) 3 1 nv s.N.length (ncells s.N)) : DAt w0 (w1.setCell ⟨w0.heap.size, 1, none⟩ tv') { s with T := T } tv' nv := by
  have n0 : (⟨w0.heap.size, 1, none⟩ : Addr) ≠ ⟨w0.heap.size, 0, none⟩ := by intro e; injection e with _ e; cases e
  have n2 : (⟨w0.heap.size, 1, none⟩ : Addr) ≠ ⟨w0.heap.size, 2, none⟩ := by intro e; injection e with _ e; cases e
  have k : ∀ i, w1.cell? ⟨w0.heap.size, i, none⟩ = w.cell? ⟨w0.heap.size, i, none⟩ := fun i => hB.cell (p := ⟨w0.heap.size, i, none⟩) (Nat.lt_succ_self _)
  have f : ∀ i, w1.frozen? ⟨w0.heap.size, i, none⟩ = w.frozen? ⟨w0.heap.size, i, none⟩ := fun i => hB.frozen (p := ⟨w0.heap.size, i, none⟩) (Nat.lt_succ_self _)
  exact ⟨(h.below.trans (hB.mono (Nat.le_succ _))).setCell (Nat.le_refl _) _, by rw [World.size_setCell]; exact Nat.lt_of_lt_of_le h.lt hB.size, (World.cell?_setCell_other _ _ _ _ n0).trans ((k 0).trans h.c0), World.cell?_setCell_same _ _ _ ((k 1).trans h.c1), (World.cell?_setCell_other _ _ _ _ n2).trans ((k 2).trans h.c2), by rw [World.frozen?_setCell]; exact (f 0).trans h.f0, by rw [World.frozen?_setCell]; exact (f 1).trans h.f1, by rw [World.frozen?_setCell]; exact (f 2).trans h.f2, own_other hb, own_other hn⟩
theorem DAt.put2 {w0 w w1 : World} {s : RS} {tv nv nv' : Value} {N : List Int} (h : DAt w0 w s tv nv) (hB : Below (w0.heap.size + 1) w w1) (ht : w1.ownsRow (w0.heap.size + 1) 9 1 tv s.T.length (tcells s.T)) (hb : w1.ownsRow (w0.heap.size + 1) 3 1 nv' N.length (ncells N)) : DAt w0 (w1.setCell ⟨w0.heap.size, 2, none⟩ nv') { s with N := N } tv nv' := by
  have n0 : (⟨w0.heap.size, 2, none⟩ : Addr) ≠ ⟨w0.heap.size, 0, none⟩ := by intro e; injection e with _ e; cases e
  have n1 : (⟨w0.heap.size, 2, none⟩ : Addr) ≠ ⟨w0.heap.size, 1, none⟩ := by intro e; injection e with _ e; cases e
  have k : ∀ i, w1.cell? ⟨w0.heap.size, i, none⟩ = w.cell? ⟨w0.heap.size, i, none⟩ := fun i => hB.cell (p := ⟨w0.heap.size, i, none⟩) (Nat.lt_succ_self _)
  have f : ∀ i, w1.frozen? ⟨w0.heap.size, i, none⟩ = w.frozen? ⟨w0.heap.size, i, none⟩ := fun i => hB.frozen (p := ⟨w0.heap.size, i, none⟩) (Nat.lt_succ_self _)
  exact ⟨(h.below.trans (hB.mono (Nat.le_succ _))).setCell (Nat.le_refl _) _, by rw [World.size_setCell]; exact Nat.lt_of_lt_of_le h.lt hB.size, (World.cell?_setCell_other _ _ _ _ n0).trans ((k 0).trans h.c0), (World.cell?_setCell_other _ _ _ _ n1).trans ((k 1).trans h.c1), World.cell?_setCell_same _ _ _ ((k 2).trans h.c2), by rw [World.frozen?_setCell]; exact (f 0).trans h.f0, by rw [World.frozen?_setCell]; exact (f 1).trans h.f1, by rw [World.frozen?_setCell]; exact (f 2).trans h.f2, own_other ht, own_other hb⟩

theorem string_ne_int : 9 ≠ 3 := by decide

theorem DAt.rowT {w0 w w1 : World} {s : RS} {tv nv : Value} {o : Obj} (h : DAt w0 w s tv nv) (hg : (w.alloc o).grownBy w1 nv.ownBlock) : w1.ownsRow (w0.heap.size + 1) 9 1 tv s.T.length (tcells s.T) :=
  (h.texts.alloc o).kept hg (own_apart (h.nums.alloc o) (h.texts.alloc o) string_ne_int.symm)
theorem DAt.rowN {w0 w w1 : World} {s : RS} {tv nv : Value} {o : Obj} (h : DAt w0 w s tv nv) (hg : (w.alloc o).grownBy w1 tv.ownBlock) : w1.ownsRow (w0.heap.size + 1) 3 1 nv s.N.length (ncells s.N) :=
  (h.nums.alloc o).kept hg (own_apart (h.texts.alloc o) (h.nums.alloc o) string_ne_int)
theorem DAt.grewN {w0 w w1 : World} {s : RS} {tv nv : Value} {o : Obj} (h : DAt w0 w s tv nv) (hg : (w.alloc o).grownBy w1 nv.ownBlock) : Below (w0.heap.size + 1) w w1 :=
  below_grown ((Below.refl (w0.heap.size + 1) w).alloc h.lt _) (by rw [World.size_alloc]; exact Nat.le_succ_of_le h.lt) hg (fun q hq => (h.nums.lt q hq).1)
theorem DAt.grewT {w0 w w1 : World} {s : RS} {tv nv : Value} {o : Obj} (h : DAt w0 w s tv nv) (hg : (w.alloc o).grownBy w1 tv.ownBlock) : Below (w0.heap.size + 1) w w1 :=
  below_grown ((Below.refl (w0.heap.size + 1) w).alloc h.lt _) (by rw [World.size_alloc]; exact Nat.le_succ_of_le h.lt) hg (fun q hq => (h.texts.lt q hq).1)
theorem DAt.afterN {w0 w w1 : World} {s : RS} {tv nv : Value} (h : DAt w0 w s tv nv) (hB : Below (w0.heap.size + 1) w w1) : (w1.cell? ⟨w0.heap.size, 2, none⟩ = some nv ∧ w1.frozen? ⟨w0.heap.size, 2, none⟩ = false) ∧ (w1.cell? ⟨w0.heap.size, 1, none⟩ = some tv ∧ w1.frozen? ⟨w0.heap.size, 1, none⟩ = false) ∧ w0.heap.size < w1.heap.size :=
  ⟨⟨(hB.cell (p := ⟨w0.heap.size, 2, none⟩) (Nat.lt_succ_self _)).trans h.c2, (hB.frozen (p := ⟨w0.heap.size, 2, none⟩) (Nat.lt_succ_self _)).trans h.f2⟩, ⟨(hB.cell (p := ⟨w0.heap.size, 1, none⟩) (Nat.lt_succ_self _)).trans h.c1, (hB.frozen (p := ⟨w0.heap.size, 1, none⟩) (Nat.lt_succ_self _)).trans h.f1⟩, Nat.lt_of_lt_of_le h.lt hB.size⟩
/-- A world that left all up to the reader as it was, and its rows. -/
theorem DAt.grow {w0 w w' : World} {s : RS} {tv nv : Value} (h : DAt w0 w s tv nv) (hb : Below w.heap.size w w') : DAt w0 w' s tv nv := by
  have hb1 : Below (w0.heap.size + 1) w w' := hb.mono h.lt
  have k : ∀ i, w'.cell? ⟨w0.heap.size, i, none⟩ = w.cell? ⟨w0.heap.size, i, none⟩ := fun i => hb1.cell (p := ⟨w0.heap.size, i, none⟩) (Nat.lt_succ_self _)
  have f : ∀ i, w'.frozen? ⟨w0.heap.size, i, none⟩ = w.frozen? ⟨w0.heap.size, i, none⟩ := fun i => hb1.frozen (p := ⟨w0.heap.size, i, none⟩) (Nat.lt_succ_self _)
  exact ⟨h.below.trans (hb1.mono (Nat.le_succ _)), Nat.lt_of_lt_of_le h.lt hb.size, (k 0).trans h.c0, (k 1).trans h.c1, (k 2).trans h.c2, (f 0).trans h.f0, (f 1).trans h.f1, (f 2).trans h.f2, own_grown h.texts hb (Nat.le_refl _), own_grown h.nums hb (Nat.le_refl _)⟩

/-- How much there can be yet. -/
def droom (s : RS) : Nat := s.S.length + (s.T.length + s.N.length)

theorem take_list (S : Bs) (n : Nat) : (⟨S.toArray⟩ : ByteArray).extract 0 n = ⟨(S.take n).toArray⟩ := by
  apply ByteArray.ext; apply Array.toList_inj.1
  simp [ByteArray.data_extract]
theorem drop_list (S : Bs) (n : Nat) : (⟨S.toArray⟩ : ByteArray).extract n (⟨S.toArray⟩ : ByteArray).size = ⟨(S.drop n).toArray⟩ := by
  apply ByteArray.ext; apply Array.toList_inj.1
  rw [bsize]
  simp [ByteArray.data_extract, List.take_of_length_le]

/-- What taking leaves, the rows where they were. -/
def TakeAt (w0 : World) (tv nv : Value) (r : Option (Bs × RS)) (e : Ending) (w' : World) : Prop := (∃ b s', r = some (b, s') ∧ e = .returned (.string ⟨b.toArray⟩) ∧ DAt w0 w' s' tv nv) ∨ (r = none ∧ Lost w0 e w')
set_option maxRecDepth 100000 in
set_option maxHeartbeats 4000000 in
theorem take_at (w0 w : World) (s : RS) (tv nv : Value) (n : Nat) (hl : s.S.length ≤ 1000000) (hW : DAt w0 w s tv nv) :
    Calls Tryd.prog 66 #[.pointer (some ⟨w0.heap.size, 0, none⟩), .int .i64 n] w (TakeAt w0 tv nv (rTake n s)) := by
  have c0 := hW.c0
  have f0 := hW.f0
  have HW := Lib.hid hW
  clear hW
  by_cases hn : n ≤ s.S.length
  · have HR := Lib.hid (show rTake n s = some (s.S.take n, { s with S := s.S.drop n }) from if_pos hn)
    rw [HR.out]
    have HP := Lib.hid (HW.out.put0 (s.S.drop n))
    rw [← drop_list] at HP
    have HT := Lib.hid (take_list s.S n)
    obtain ⟨sb, hsb⟩ : ∃ sb : ByteArray, sb = ⟨s.S.toArray⟩ := ⟨_, rfl⟩
    have hsz : sb.size = s.S.length := by rw [hsb, bsize]
    rw [← hsb] at c0 HP HT
    have h1 : (n : Int) ≤ sb.size := by omega
    have h2 : sb.size ≤ 1000000 := by omega
    have HSZ := Lib.hid hsz
    clear hsb HR hn hl hsz
    go_enter Tryd.func66, Tryd.ntmps66
    go_wp2_with fail
    refine (demand_ok _).mono ?_; rintro e w1 ⟨rfl, rfl⟩
    go_wp2_with fail
    go_ret
    refine .inl ⟨_, _, rfl, by rw [← HT.out]; rfl, HP.out⟩
  · have HR := Lib.hid (show rTake n s = none from if_neg hn)
    rw [HR.out]
    obtain ⟨sb, hsb⟩ : ∃ sb : ByteArray, sb = ⟨s.S.toArray⟩ := ⟨_, rfl⟩
    have hsz : sb.size = s.S.length := by rw [hsb, bsize]
    rw [← hsb] at c0
    have h1 : ¬ (n : Int) ≤ sb.size := by omega
    have h3 : decide ((n : Int) ≤ sb.size) = false := decide_eq_false h1
    have HSZ := Lib.hid hsz
    clear hsb HR hn hl hsz
    go_enter Tryd.func66, Tryd.ntmps66
    go_wp2_with fail
    refine (demand_no _).mono ?_; rintro e w1 ⟨rfl, rfl⟩
    go_wp2_with fail
    exact ⟨rfl, .inr ⟨rfl, rfl, HW.out.below⟩⟩
theorem take_anyM (w0 w : World) (s : RS) (n : Nat) (hl : s.S.length ≤ 1000000) (h : IsD w0 w s) :
    Calls Tryd.prog 66 #[.pointer (some ⟨w0.heap.size, 0, none⟩), .int .i64 n] w (DOutS w0 (rTake n s)) := by
  obtain ⟨tv, nv, hW⟩ := h
  refine (take_at w0 w s tv nv n hl hW).mono ?_
  rintro e w' (⟨b, s', h1, h2, h3⟩ | ⟨h1, h2⟩)
  · exact .inl ⟨b, s', h1, h2, tv, nv, h3⟩
  · exact .inr ⟨h1, h2⟩
end Go.Proofs.YtmofnkinclckoaaDoor

namespace Go.Proofs.YtmofnkinclckoaaDoor
open Go.RowKit Go.Lib Go.WideShapes

theorem info_i64 : (Tryd.prog.info? 3).map (fun i => (i.zero, i.size, i.bytes)) = some (some (.int .i64 0), 1, 8) := by kernel_rfl

set_option maxRecDepth 100000 in
set_option maxHeartbeats 4000000 in
theorem keep_any (w0 w : World) (s : RS) (n : Int) (hr : s.N.length ≤ 1000000) (h : IsD w0 w s) :
    Calls Tryd.prog 52 #[.pointer (some ⟨w0.heap.size, 0, none⟩), .int .i64 n] w (DOut w0 (some (rKeep n s))) := by
  obtain ⟨i0, hi, y0, y1, y2⟩ := info_parts info_i64
  obtain ⟨tv, nv, hW⟩ := h
  obtain ⟨a, c, rfl⟩ := ownsRow_form hW.nums
  have c2 := hW.c2
  have f2 := hW.f2
  have hz := hW.lt
  have HW := Lib.hid hW
  clear hW
  go_enter Tryd.func52, Tryd.ntmps52
  go_wp2_with (at_builtin; refine wpList_append_at _ rfl (.tmp 8) (.tmp 10) 22 rfl (w0.heap.size + 1) 3 i0 (.int .i64 0) 1 8 Tryd.underlying22 hi y0 y1 y2 rfl (by decide) (.slice a s.N.length c) s.N.length (ncells s.N) rfl (HW.out.nums.alloc _) ⟨w.heap.size, 0, none⟩ 1 1 [.int .i64 n] rfl rfl (fun j u h => by rw [Go.WideShapes.add_plain, Nat.zero_add, ← h]; exact (World.cell?_alloc_new w _ _ j).trans (by simp)) (by intro u hu; simp at hu; rcases hu with rfl; rfl) (by unfold maxLen; omega) (by omega) (by simp; omega) ?_)
  intro v' w1 hO hg _
  obtain ⟨a', c', rfl⟩ := ownsRow_form hO
  have HB := Lib.hid (HW.out.grewN hg)
  obtain ⟨⟨e2, g2⟩, _, hz1⟩ := HW.out.afterN HB.out
  have HP := Lib.hid (HW.out.put2 (N := s.N ++ [n]) HB.out (HW.out.rowT hg) (by rw [ncells_append, List.length_append]; exact hO))
  clear hO hg c2 f2
  go_wp2_with fail
  go_end0
  exact .inl ⟨_, rfl, rfl, _, _, HP.out⟩

theorem or_byte (n : Nat) (b : UInt8) (h : n < 16777216) : bits .or .i64 ((n : Int) * 256) (b.toNat : Nat) = ((n * 256 + b.toNat : Nat) : Int) := by
  have hb : b.toNat < 256 := UInt8.toNat_lt b
  have hk : ∀ n : Int, 0 ≤ n → n < 2 ^ 62 → IntKind.i64.wrap n = n := by
    intro n h0 h1
    obtain ⟨m, rfl⟩ := Int.eq_ofNat_of_zero_le h0
    exact wrap_i64_small m (by omega)
  rw [bits_join .i64 62 (by decide) hk 8 ((n : Int) * 256) (b.toNat : Nat) (by omega) (by omega) (by omega) (by omega) (by omega) (by omega)]
  omega
theorem conv_to (w : World) (s : ByteArray) : ∃ W c, (convert 9 57 (.string s)).run Tryd.prog w = .ok (.slice (some ⟨w.heap.size, 0, none⟩) s.size c) W ∧ (∀ j (hj : j < s.size), W.cell? ⟨w.heap.size, j, none⟩ = some (.int .u8 (s[j].toNat : Nat))) ∧ Below w.heap.size w W := by
  refine ⟨_, _, Lib.run_convert_string_bytes w 9 57 5 s Tryd.underlying9 Tryd.underlying57 Tryd.underlying5, ?_, Joins.below_bytesWorld _ _ _ _ (Nat.le_refl _)⟩
  intro j hj
  rw [Lib.bytesWorld_cell w 5 s j hj]
  have : s.data.toList.getD j 0 = s[j] := by
    rw [List.getD_eq_getElem?_getD, List.getElem?_eq_getElem (by simpa using hj)]; rfl
  rw [this]

set_option maxRecDepth 100000 in
set_option maxHeartbeats 8000000 in
theorem unsigned_any (w0 w : World) (s : RS) (k : Nat) (hk : 1 ≤ k ∧ k ≤ 4) (hl : s.S.length ≤ 1000000) (h : IsD w0 w s) :
    Calls Tryd.prog 53 #[.pointer (some ⟨w0.heap.size, 0, none⟩), .int .i64 k] w (DOutN w0 (rUnsigned k s)) := by
  have HT := Lib.hid (take_anyM w0 w s k hl h)
  obtain ⟨hk1, hk4⟩ := hk
  unfold rUnsigned
  have HTO := Lib.hid (fun b s' => take_out (k := k) (s := s) (b := b) (s' := s'))
  generalize rTake k s = R at HT HTO ⊢
  clear h hl
  go_enter Tryd.func53, Tryd.ntmps53
  go_wp2_with fail
  refine HT.out.mono ?_; rintro e w1 (⟨b, s1, rfl, rfl, hI⟩ | ⟨rfl, rfl, hB⟩)
  · have hbl := (HTO.out b s1 rfl).2.1
    obtain ⟨bb, hbb⟩ : ∃ bb : ByteArray, bb = ⟨b.toArray⟩ := ⟨_, rfl⟩
    have hbz : bb.size = k := by rw [hbb, bsize]; exact hbl
    have HBB := Lib.hid (show bytes bb = b by rw [hbb])
    have HI := Lib.hid hI
    have h0 : 0 < bb.size := by omega
    have hb4 : bb.size ≤ 4 := by omega
    rw [← hbb]
    have HBZ := Lib.hid hbz
    clear hbb hbl hI hbz
    obtain ⟨W, cap, hcv, hcell, hWB⟩ := conv_to w1 bb
    have HCELL := Lib.hid hcell
    have HI2 := Lib.hid (show IsD w0 W s1 from by obtain ⟨tv, nv, hD⟩ := HI.out; exact ⟨tv, nv, hD.grow hWB⟩)
    have HBLT := Lib.hid (show ∀ j, unsig (b.take j) < 256 ^ j from fun j => Nat.lt_of_lt_of_le (unsig_lt _) (Nat.pow_le_pow_right (by decide) (List.length_take_le _ _)))
    clear hcell hWB
    go_wp2_with fail
    go_loopw [5, 13] (fun n i wx => ∃ j : Nat, j ≤ bb.size ∧ i = .int .i64 j ∧ n = .int .i64 (unsig (b.take j) : Nat) ∧ wx = W) (fun _ i _ => bb.size - (RowKit.intOf i).toNat)
    case atStart => exact ⟨0, Nat.zero_le _, rfl, rfl, rfl⟩
    case round =>
      obtain ⟨j, hj, rfl, rfl, hwr⟩ := hrel
      subst hwr
      clear hcv
      by_cases hlt : j < bb.size
      · have hlt' : (j : Int) < bb.size := by omega
        have d0 := HCELL.out j hlt
        have hjb : j < b.length := by rw [← HBB.out, blen]; exact hlt
        have hg : b[j] = bb[j] := by
          have : (bytes bb)[j]'(by rw [blen]; exact hlt) = bb[j] := rfl
          simp only [HBB.out] at this
          exact this
        have HN := Lib.hid (show unsig (b.take (j + 1)) = unsig (b.take j) * 256 + bb[j].toNat from by
          rw [List.take_succ_eq_append_getElem hjb, unsig_snoc, hg])
        have hu : unsig (b.take j) < 16777216 := by
          have h1 := HBLT.out j
          have h2 : 256 ^ j ≤ 256 ^ 3 := Nat.pow_le_pow_right (by decide) (by have := HBZ.out; omega)
          exact Nat.lt_of_lt_of_le h1 h2
        have hor := or_byte (unsig (b.take j)) bb[j] hu
        generalize unsig (b.take j) = u at hu hor HN ⊢
        have hbt : bb[j].toNat < 256 := UInt8.toNat_lt _
        generalize bb[j].toNat = v at d0 hor HN hbt
        have hu' : (u : Int) * 256 ≤ 9223372036854775807 := by omega
        clear hjb hg
        go_wp2_with fail
        go_roundw
        case measure => first | omega | (simp [RowKit.intOf]; omega)
        case rel => exact ⟨j + 1, by omega, by go_num, by rw [HN.out]; exact congrArg (Value.int .i64) (by omega), by trivial⟩
      · have hjz : j = bb.size := by omega
        have HF := Lib.hid (show b.take j = b by rw [hjz, ← blen, HBB.out, List.take_length])
        clear hjz
        go_wp2_with fail
        go_ret
        refine .inl ⟨_, s1, rfl, by rw [HF.out]; rfl, HI2.out⟩
  · go_wp2_with fail
    exact ⟨rfl, .inr ⟨rfl, rfl, hB⟩⟩

theorem IsD.drew {w0 w : World} {s : RS} (h : IsD w0 w s) : IsD w0 w.drew s := by
  obtain ⟨tv, nv, h⟩ := h
  exact ⟨tv, nv, h.drew⟩
set_option maxRecDepth 100000 in
set_option maxHeartbeats 4000000 in
theorem signed_two (w0 w : World) (s : RS) (hl : s.S.length ≤ 1000000) (h : IsD w0 w s) :
    Calls Tryd.prog 50 #[.pointer (some ⟨w0.heap.size, 0, none⟩), .int .i64 2] w (DOutN w0 (rSigned 2 s)) := by
  have HU := Lib.hid (fun w (h : IsD w0 w s) => unsigned_any w0 w s 2 (by decide) hl h)
  have HRS := Lib.hid (show rSigned 2 s = (rUnsigned 2 s).map fun p => (sgnM 2 p.1, p.2) by unfold rSigned rUnsigned; cases rTake 2 s <;> rfl)
  have HUL := Lib.hid (show ∀ n s', rUnsigned 2 s = some (n, s') → 0 ≤ n ∧ n < 65536 from by
    intro n s' e
    unfold rUnsigned at e
    cases hx : rTake 2 s with
    | none => rw [hx] at e; cases e
    | some p =>
      obtain ⟨b, s1⟩ := p
      rw [hx] at e
      simp only [Option.map_some, Option.some.injEq, Prod.mk.injEq] at e
      have hb := unsig_lt b
      rw [(take_out hx).2.1] at hb
      have hb' : unsig b < 65536 := hb
      omega)
  have H := Lib.hid h
  generalize rUnsigned 2 s = R at HU HRS HUL
  clear h hl
  rw [HRS.out]
  cases R with
  | none =>
    have hw : IntKind.i64.wrap 16 = 16 := rfl
    have hw2 : IntKind.i64.wrap 65536 = 65536 := rfl
    go_enter Tryd.func50, Tryd.ntmps50
    go_upto_region 1 with (fail)
    go_region_with ((go_at_call 53; refine (HU.out _ H.out.drew).mono ?_; rintro e w1 (⟨_, _, h, _⟩ | ⟨_, rfl, hB⟩); (cases h); (refine (fun (_ : wpAny Tryd.prog .any #[] (fun _ _ _ => True) 0 #[] { tmps := #[], defers := [] } w1) => ⟨rfl, .inr ⟨rfl, rfl, hB⟩⟩) ?_)))
    all_goals trivial
  | some p =>
    obtain ⟨n, s1⟩ := p
    have hw : IntKind.i64.wrap 16 = 16 := rfl
    have hw2 : IntKind.i64.wrap 65536 = 65536 := rfl
    go_enter Tryd.func50, Tryd.ntmps50
    go_upto_region 1 with (fail)
    go_region_with ((go_at_call 53; refine (HU.out _ H.out.drew).mono ?_; rintro e w1 (⟨_, _, h, rfl, hI⟩ | ⟨h, _, _⟩); (obtain ⟨rfl, rfl⟩ := Prod.mk.inj (Option.some.inj h))))
    have HUL := Lib.hid (HUL.out n s1 rfl)
    all_goals
      have hI2 := Lib.hid hI
      clear hI
      by_cases hc : 32768 ≤ n
      · have HSG := Lib.hid (show sgnM 2 n = n - 65536 from if_pos hc)
        have h1 := HUL.out.2
        go_wp2_with fail
        go_ret
        exact .inl ⟨_, _, rfl, by rw [HSG.out]; rfl, hI2.out⟩
      · have HSG := Lib.hid (show sgnM 2 n = n from if_neg hc)
        go_wp2_with fail
        go_ret
        exact .inl ⟨_, _, rfl, by rw [HSG.out]; rfl, hI2.out⟩
set_option maxRecDepth 100000 in
set_option maxHeartbeats 4000000 in
theorem signed_four (w0 w : World) (s : RS) (hl : s.S.length ≤ 1000000) (h : IsD w0 w s) :
    Calls Tryd.prog 50 #[.pointer (some ⟨w0.heap.size, 0, none⟩), .int .i64 4] w (DOutN w0 (rSigned 4 s)) := by
  have HU := Lib.hid (fun w (h : IsD w0 w s) => unsigned_any w0 w s 4 (by decide) hl h)
  have HRS := Lib.hid (show rSigned 4 s = (rUnsigned 4 s).map fun p => (sgnM 4 p.1, p.2) by unfold rSigned rUnsigned; cases rTake 4 s <;> rfl)
  have HUL := Lib.hid (show ∀ n s', rUnsigned 4 s = some (n, s') → 0 ≤ n ∧ n < 4294967296 from by
    intro n s' e
    unfold rUnsigned at e
    cases hx : rTake 4 s with
    | none => rw [hx] at e; cases e
    | some p =>
      obtain ⟨b, s1⟩ := p
      rw [hx] at e
      simp only [Option.map_some, Option.some.injEq, Prod.mk.injEq] at e
      have hb := unsig_lt b
      rw [(take_out hx).2.1] at hb
      have hb' : unsig b < 4294967296 := hb
      omega)
  have H := Lib.hid h
  generalize rUnsigned 4 s = R at HU HRS HUL
  clear h hl
  rw [HRS.out]
  cases R with
  | none =>
    have hw : IntKind.i64.wrap 32 = 32 := rfl
    have hw2 : IntKind.i64.wrap 4294967296 = 4294967296 := rfl
    go_enter Tryd.func50, Tryd.ntmps50
    go_upto_region 1 with (fail)
    go_region_with ((go_at_call 53; refine (HU.out _ H.out.drew).mono ?_; rintro e w1 (⟨_, _, h, _⟩ | ⟨_, rfl, hB⟩); (cases h); (refine (fun (_ : wpAny Tryd.prog .any #[] (fun _ _ _ => True) 0 #[] { tmps := #[], defers := [] } w1) => ⟨rfl, .inr ⟨rfl, rfl, hB⟩⟩) ?_)))
    all_goals trivial
  | some p =>
    obtain ⟨n, s1⟩ := p
    have hw : IntKind.i64.wrap 32 = 32 := rfl
    have hw2 : IntKind.i64.wrap 4294967296 = 4294967296 := rfl
    go_enter Tryd.func50, Tryd.ntmps50
    go_upto_region 1 with (fail)
    go_region_with ((go_at_call 53; refine (HU.out _ H.out.drew).mono ?_; rintro e w1 (⟨_, _, h, rfl, hI⟩ | ⟨h, _, _⟩); (obtain ⟨rfl, rfl⟩ := Prod.mk.inj (Option.some.inj h))))
    have HUL := Lib.hid (HUL.out n s1 rfl)
    all_goals
      have hI2 := Lib.hid hI
      clear hI
      by_cases hc : 2147483648 ≤ n
      · have HSG := Lib.hid (show sgnM 4 n = n - 4294967296 from if_pos hc)
        have h1 := HUL.out.2
        go_wp2_with fail
        go_ret
        exact .inl ⟨_, _, rfl, by rw [HSG.out]; rfl, hI2.out⟩
      · have HSG := Lib.hid (show sgnM 4 n = n from if_neg hc)
        go_wp2_with fail
        go_ret
        exact .inl ⟨_, _, rfl, by rw [HSG.out]; rfl, hI2.out⟩
end Go.Proofs.YtmofnkinclckoaaDoor
