/- Messages written field by field: mathematics. No program is named here. -/
import Derived.Test.YtfdffiphlpeegaaDoorFrame
import Derived.Lib.Hide
namespace Go.Proofs.YtfdffiphlpeegaaDoor

abbrev Bs := List UInt8

/-- What is left of a message's texts and numbers, and the body so far. -/
structure WS where
  T : List Bs
  N : List Int
  B : Bs

/-- The byte of a number at a place. -/
def byteAt (n : Int) (i : Nat) : UInt8 := UInt8.ofNat ((n / (256 ^ i : Nat)) % 256).toNat
/-- A number in so many bytes, the greatest first. -/
def be : Nat → Int → Bs
  | 0, _ => []
  | k + 1, n => byteAt n k :: be k n
theorem be_length : ∀ (k : Nat) (n : Int), (be k n).length = k
  | 0, _ => rfl
  | k + 1, n => by rw [be, List.length_cons, be_length k n]

def wNum (l m : Int) (s : WS) : Option (Int × WS) := match s.N with
  | [] => none
  | n :: ns => if l ≤ n ∧ n ≤ m then some (n, { s with N := ns }) else none
def wNumber (l m : Int) (k : Nat) (s : WS) : Option (Int × WS) := (wNum l m s).map fun p => (p.1, { p.2 with B := p.2.B ++ be k p.1 })
def wZero (s : WS) : WS := { s with B := s.B ++ [0] }
def wText (s : WS) : Option WS := match s.T with
  | [] => none
  | t :: ts => if (0 : UInt8) ∈ t then none else some { s with T := ts, B := s.B ++ (t ++ [0]) }
def rep : Nat → (WS → Option WS) → WS → Option WS
  | 0, _, s => some s
  | n + 1, f, s => (f s).bind (rep n f)
def wPair (s : WS) : Option WS := match s.T with
  | [] => none
  | t :: _ => if t = [] then none else wText s
def wPairs (s : WS) : Option WS := (wNum 0 s.T.length s).bind fun p => if p.1 % 2 = 0 then (rep p.1.toNat wPair p.2).map wZero else none
def wItem (s : WS) : Option WS := (wNumber 1 255 1 s).bind fun p => wText p.2
def wFields (s : WS) : Option WS := (wNum 0 s.T.length s).bind fun p => (rep p.1.toNat wItem p.2).map wZero
def wCounted (f : WS → Option WS) (s : WS) : Option WS := (wNumber 0 100 2 s).bind fun p => rep p.1.toNat f p.2
def wShort (s : WS) : Option WS := (wNumber (-32768) 32767 2 s).map (·.2)
def wLong (s : WS) : Option WS := (wNumber (-2147483648) 2147483647 4 s).map (·.2)
def wByte (s : WS) : Option WS := (wNumber 0 255 1 s).map (·.2)
def wRaw (n : Int) (s : WS) : Option WS := match s.T with
  | [] => none
  | t :: ts => if (t.length : Int) = n then some { s with T := ts, B := s.B ++ t } else none
def wValue (s : WS) : Option WS := (wNumber (-1) 10000 4 s).bind fun p => if p.1 < 0 then some p.2 else wRaw p.1 p.2
def wName (s : WS) : Option WS := (wText s).map fun s => { s with B := s.B ++ List.replicate 18 0 }
/-- One field. -/
def wField (c : UInt8) (s : WS) : Option WS :=
  if c = 115 then wText s
  else if c = 98 then wByte s
  else if c = 105 then wLong s
  else if c = 112 then wPairs s
  else if c = 102 then wFields s
  else if c = 99 then wCounted wShort s
  else if c = 108 then wCounted wLong s
  else if c = 118 then wCounted wValue s
  else if c = 109 then wCounted wName s
  else some s
def wAll : Bs → WS → Option WS
  | [], s => some s
  | c :: l, s => (wField c s).bind (wAll l)

/-- How much there can be yet. -/
def room (s : WS) : Nat := s.B.length + ((s.T.map fun t => t.length + 19).sum + 4 * s.N.length)

theorem room_num {l m n : Int} {s s' : WS} (h : wNum l m s = some (n, s')) : s'.B = s.B ∧ s'.T = s.T ∧ room s' + 4 = room s := by
  unfold wNum at h
  cases hN : s.N with
  | nil => rw [hN] at h; cases h
  | cons x ns =>
    rw [hN] at h
    simp only at h
    split at h
    · simp only [Option.some.injEq, Prod.mk.injEq] at h
      obtain ⟨rfl, rfl⟩ := h
      refine ⟨rfl, rfl, ?_⟩
      unfold room
      rw [hN, List.length_cons]
      show s.B.length + ((s.T.map fun t => t.length + 19).sum + 4 * ns.length) + 4 = _
      omega
    · cases h
theorem room_number {l m n : Int} {k : Nat} {s s' : WS} (h : wNumber l m k s = some (n, s')) (hk : k ≤ 4) : room s' ≤ room s ∧ s'.T = s.T := by
  unfold wNumber at h
  cases hN : wNum l m s with
  | none => rw [hN] at h; cases h
  | some p =>
    obtain ⟨x, s1⟩ := p
    rw [hN] at h
    simp only [Option.map_some, Option.some.injEq, Prod.mk.injEq] at h
    obtain ⟨rfl, rfl⟩ := h
    obtain ⟨h1, h2, h3⟩ := room_num hN
    refine ⟨?_, h2⟩
    unfold room at h3 ⊢
    show (s1.B ++ be k x).length + _ ≤ _
    rw [List.length_append, be_length]
    show s1.B.length + k + ((s1.T.map fun t => t.length + 19).sum + 4 * s1.N.length) ≤ _
    omega
theorem num_range {l m n : Int} {s s' : WS} (h : wNum l m s = some (n, s')) : l ≤ n ∧ n ≤ m := by
  unfold wNum at h
  cases hN : s.N with
  | nil => rw [hN] at h; cases h
  | cons x ns =>
    rw [hN] at h
    simp only at h
    split at h
    · rename_i hc
      have e := (Prod.mk.inj (Option.some.inj h)).1
      subst e; exact hc
    · cases h
theorem number_range {l m n : Int} {k : Nat} {s s' : WS} (h : wNumber l m k s = some (n, s')) : l ≤ n ∧ n ≤ m := by
  unfold wNumber at h
  cases hN : wNum l m s with
  | none => rw [hN] at h; cases h
  | some p =>
    obtain ⟨x, s1⟩ := p
    rw [hN] at h
    simp only [Option.map_some, Option.some.injEq, Prod.mk.injEq] at h
    obtain ⟨rfl, _⟩ := h
    exact num_range hN
theorem room_text {s s' : WS} (h : wText s = some s') : room s' + 18 ≤ room s := by
  unfold wText at h
  cases hT : s.T with
  | nil => rw [hT] at h; cases h
  | cons t ts =>
    rw [hT] at h
    simp only at h
    split at h
    · cases h
    · obtain rfl := Option.some.inj h
      unfold room
      rw [hT, List.map_cons, List.sum_cons]
      show (s.B ++ (t ++ [0])).length + ((ts.map fun t => t.length + 19).sum + 4 * s.N.length) + 18 ≤ _
      rw [List.length_append, List.length_append]
      show s.B.length + (t.length + 1) + _ + 18 ≤ _
      omega
theorem room_zero (s : WS) : room (wZero s) = room s + 1 := by
  unfold room wZero
  show (s.B ++ [0]).length + _ = _
  rw [List.length_append]
  show s.B.length + 1 + ((s.T.map fun t => t.length + 19).sum + 4 * s.N.length) = _
  omega
theorem room_rep {f : WS → Option WS} (hf : ∀ s s', f s = some s' → room s' ≤ room s) : ∀ (n : Nat) (s s' : WS), rep n f s = some s' → room s' ≤ room s := by
  intro n
  induction n with
  | zero => intro s s' h; obtain rfl := Option.some.inj h; exact Nat.le_refl _
  | succ n ih =>
    intro s s' h
    rw [rep] at h
    cases hx : f s with
    | none => rw [hx] at h; cases h
    | some s1 =>
      rw [hx] at h
      exact Nat.le_trans (ih s1 s' h) (hf s s1 hx)
theorem rep_succ (n : Nat) (f : WS → Option WS) (s : WS) : rep (n + 1) f s = (rep n f s).bind f := by
  induction n generalizing s with
  | zero =>
    show (f s).bind (rep 0 f) = f s
    cases f s <;> rfl
  | succ n ih =>
    rw [rep, rep]
    cases f s with
    | none => rfl
    | some s1 => exact ih s1
end Go.Proofs.YtfdffiphlpeegaaDoor
