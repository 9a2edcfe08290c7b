/- The document's own way through a message, in lists. No program is named here. -/
import Derived.Test.YtfdffiphlpeegaaMDone
import Derived.Test.YtfdffiphlpeegaaMWrite
namespace Go.Proofs.Ytfdffiphlpeegaa

/-- What is left of a message, what is written; was it wrong? -/
structure XS where
  T : List Bs
  N : List Int
  B : Bs
  bad : Bool

def XS.ws (s : XS) : WS := ⟨s.T, s.N, s.B⟩
def xr (s : XS) : Nat := room s.ws
def xNum (s : XS) : Int × XS := match s.N with | [] => (0, { s with bad := true }) | n :: ns => (n, { s with N := ns })
def xText (s : XS) : Bs × XS := match s.T with | [] => ([], { s with bad := true }) | t :: ts => (t, { s with T := ts })
def xEnded (t : Bs) (s : XS) : XS := { s with bad := s.bad || decide ((0 : UInt8) ∈ t), B := s.B ++ (t ++ [0]) }
def xNumber (n : Int) (k : Nat) (l m : Int) (s : XS) : XS := if l ≤ n ∧ n ≤ m then { s with B := s.B ++ be k n } else { s with bad := true }
def xCount (most : Int) (s : XS) : Int × XS := if 0 ≤ (xNum s).1 ∧ (xNum s).1 ≤ most then xNum s else (0, { (xNum s).2 with bad := true })
def xRep : Nat → (XS → XS) → XS → XS
  | 0, _, s => s
  | n + 1, f, s => if s.bad then s else xRep n f (f s)
def xEndText (s : XS) : XS := xEnded (xText s).1 (xText s).2
def xNumF (l m : Int) (k : Nat) (s : XS) : XS := xNumber (xNum s).1 k l m (xNum s).2
def xPair (s : XS) : XS := xEnded (xText s).1 { (xText s).2 with bad := (xText s).2.bad || decide ((xText s).1 = []) }
def xItem (s : XS) : XS := xEndText (xNumF 1 255 1 s)
def xZero (s : XS) : XS := { s with B := s.B ++ [0] }
def xPairs (s : XS) : XS :=
  let p := xCount 10000 s
  let r := xRep p.1.toNat xPair p.2
  xZero { r with bad := r.bad || decide (p.1 % 2 = 1) }
def xFields (s : XS) : XS :=
  let p := xCount 10000 s
  xZero (xRep p.1.toNat xItem p.2)
def xTail (s : XS) : XS := { s with B := s.B ++ List.replicate 18 0 }
def xName (s : XS) : XS := xTail (xEndText s)
def xRaw (n : Int) (s : XS) : XS := { (xText s).2 with bad := (xText s).2.bad || decide (¬ ((xText s).1.length : Int) = n), B := (xText s).2.B ++ (xText s).1 }
def xValue (s : XS) : XS :=
  let p := xNum s
  let r := xNumber p.1 4 (-1) 10000 p.2
  if 0 ≤ p.1 then xRaw p.1 r else r
def xOne (c : UInt8) (s : XS) : XS :=
  if c = 99 then xNumF (-32768) 32767 2 s
  else if c = 108 then xNumF (-2147483648) 2147483647 4 s
  else if c = 109 then xName s
  else xValue s
def xRow (c : UInt8) (s : XS) : XS :=
  let p := xCount 100 s
  xRep p.1.toNat (xOne c) (xNumber p.1 2 0 100 p.2)
def xField (c : UInt8) (s : XS) : XS :=
  if c = 115 then xEndText s
  else if c = 98 then xNumF 0 255 1 s
  else if c = 104 then xNumF (-32768) 32767 2 s
  else if c = 105 then xNumF (-2147483648) 2147483647 4 s
  else if c = 112 then xPairs s
  else if c = 102 then xFields s
  else xRow c s
def xAll : Bs → XS → XS
  | [], s => s
  | c :: l, s => if s.bad then s else xAll l (xField c s)

/-! ### how much there is, and that what is wrong stays so -/
/-- A step: what is wrong stays wrong; it puts no more than there is, and at most d more if it is wrong. -/
structure Step (d : Nat) (f : XS → XS) : Prop where
  bad : ∀ s, s.bad = true → (f s).bad = true
  room : ∀ s, xr (f s) ≤ xr s + d
  good : ∀ s, (f s).bad = false → xr (f s) ≤ xr s

theorem xr_eq (s : XS) : xr s = s.B.length + ((s.T.map fun t => t.length + 19).sum + 4 * s.N.length) := rfl
theorem num_ways (s : XS) : (s.N = [] ∧ xNum s = (0, { s with bad := true })) ∨ (∃ n ns, s.N = n :: ns ∧ xNum s = (n, { s with N := ns }) ∧ xr { s with N := ns } + 4 = xr s) := by
  unfold xNum
  cases h : s.N with
  | nil => exact .inl ⟨rfl, rfl⟩
  | cons n ns =>
    refine .inr ⟨n, ns, rfl, rfl, ?_⟩
    rw [xr_eq, xr_eq, h, List.length_cons]
    show s.B.length + ((s.T.map fun t => t.length + 19).sum + 4 * ns.length) + 4 = _
    omega
theorem text_ways (s : XS) : (s.T = [] ∧ xText s = ([], { s with bad := true })) ∨ (∃ t ts, s.T = t :: ts ∧ xText s = (t, { s with T := ts }) ∧ xr { s with T := ts } + (t.length + 19) = xr s) := by
  unfold xText
  cases h : s.T with
  | nil => exact .inl ⟨rfl, rfl⟩
  | cons t ts =>
    refine .inr ⟨t, ts, rfl, rfl, ?_⟩
    rw [xr_eq, xr_eq, h, List.map_cons, List.sum_cons]
    show s.B.length + ((ts.map fun t => t.length + 19).sum + 4 * s.N.length) + (t.length + 19) = _
    omega
theorem xr_put (s : XS) (b : Bs) (d : Bool) : xr { s with B := s.B ++ b, bad := d } = xr s + b.length := by
  rw [xr_eq, xr_eq]
  show (s.B ++ b).length + _ = _
  rw [List.length_append]
  show s.B.length + b.length + ((s.T.map fun t => t.length + 19).sum + 4 * s.N.length) = _
  omega
theorem xr_bad (s : XS) (d : Bool) : xr { s with bad := d } = xr s := rfl
theorem xr_ended (t : Bs) (s : XS) : xr (xEnded t s) = xr s + (t.length + 1) := by
  unfold xEnded
  rw [xr_put, List.length_append]; rfl
theorem xr_number (n : Int) (k : Nat) (l m : Int) (s : XS) : xr (xNumber n k l m s) ≤ xr s + k := by
  unfold xNumber
  split
  · have := xr_put s (be k n) s.bad
    rw [be_length] at this
    exact Nat.le_of_eq this
  · exact Nat.le_add_right _ _
theorem bad_number {n : Int} {k : Nat} {l m : Int} {s : XS} (h : s.bad = true) : (xNumber n k l m s).bad = true := by
  unfold xNumber
  split
  · exact h
  · rfl
theorem bad_num {s : XS} (h : s.bad = true) : (xNum s).2.bad = true := by
  rcases num_ways s with ⟨_, e⟩ | ⟨n, ns, _, e, _⟩
  · rw [e]
  · rw [e]; exact h
theorem bad_text {s : XS} (h : s.bad = true) : (xText s).2.bad = true := by
  rcases text_ways s with ⟨_, e⟩ | ⟨n, ns, _, e, _⟩
  · rw [e]
  · rw [e]; exact h
theorem bad_ended {t : Bs} {s : XS} (h : s.bad = true) : (xEnded t s).bad = true := by
  show (s.bad || _) = true
  rw [h]; rfl
theorem step_endtext : Step 1 xEndText where
  bad := fun s h => bad_ended (bad_text h)
  room := fun s => by
    unfold xEndText
    rcases text_ways s with ⟨_, e⟩ | ⟨t, ts, _, e, h⟩
    · rw [e, xr_ended]; exact Nat.le_refl _
    · rw [e, xr_ended]; show xr { s with T := ts } + (t.length + 1) ≤ _; omega
  good := fun s hb => by
    unfold xEndText at hb ⊢
    rcases text_ways s with ⟨_, e⟩ | ⟨t, ts, _, e, h⟩
    · rw [e] at hb; cases hb
    · rw [e, xr_ended]; show xr { s with T := ts } + (t.length + 1) ≤ _; omega
theorem step_numf {l m : Int} {k : Nat} (hk : k ≤ 4) : Step 4 (xNumF l m k) where
  bad := fun s h => bad_number (bad_num h)
  room := fun s => by
    unfold xNumF
    rcases num_ways s with ⟨_, e⟩ | ⟨t, ts, _, e, h⟩
    · rw [e]; have := xr_number 0 k l m { s with bad := true }; have e2 : xr { s with bad := true } = xr s := rfl; show xr (xNumber 0 k l m { s with bad := true }) ≤ _; omega
    · rw [e]; have := xr_number t k l m { s with N := ts }; show xr (xNumber t k l m { s with N := ts }) ≤ _; omega
  good := fun s hb => by
    unfold xNumF at hb ⊢
    rcases num_ways s with ⟨_, e⟩ | ⟨t, ts, _, e, h⟩
    · rw [e] at hb; rw [bad_number rfl] at hb; cases hb
    · rw [e]; have := xr_number t k l m { s with N := ts }; show xr (xNumber t k l m { s with N := ts }) ≤ _; omega
theorem Step.comp {a b : Nat} {f g : XS → XS} (hf : Step a f) (hg : Step b g) : Step (a + b) (fun s => g (f s)) where
  bad := fun s h => hg.bad _ (hf.bad s h)
  room := fun s => by have h1 := hf.room s; have h2 := hg.room (f s); show xr (g (f s)) ≤ _; omega
  good := fun s h => by
    have h1 := hg.good (f s) h
    have h2 : (f s).bad = false := by
      cases hb : (f s).bad with
      | false => rfl
      | true => have := hg.bad _ hb; rw [show (g (f s)).bad = false from h] at this; cases this
    have h3 := hf.good s h2
    show xr (g (f s)) ≤ _
    omega
theorem step_item : Step 5 xItem := (step_numf (by decide)).comp step_endtext
theorem step_pair : Step 1 xPair where
  bad := fun s h => by
    unfold xPair
    exact bad_ended (by show ((xText s).2.bad || _) = true; rw [bad_text h]; rfl)
  room := fun s => by
    unfold xPair
    rw [xr_ended, xr_bad]
    rcases text_ways s with ⟨_, e⟩ | ⟨t, ts, _, e, h⟩
    · rw [e]; exact Nat.le_refl _
    · rw [e]; show xr { s with T := ts } + (t.length + 1) ≤ _; omega
  good := fun s hb => by
    unfold xPair at hb ⊢
    rw [xr_ended, xr_bad]
    rcases text_ways s with ⟨_, e⟩ | ⟨t, ts, _, e, h⟩
    · rw [e] at hb; cases hb
    · rw [e]; show xr { s with T := ts } + (t.length + 1) ≤ _; omega
theorem step_name : Step 19 xName where
  bad := fun s h => step_endtext.bad s h
  room := fun s => by
    have h1 := step_endtext.room s
    have := xr_put (xEndText s) (List.replicate 18 0) (xEndText s).bad
    rw [List.length_replicate] at this
    show xr { xEndText s with B := (xEndText s).B ++ List.replicate 18 0 } ≤ _
    rw [this]; omega
  good := fun s hb => by
    have hb' : (xEndText s).bad = false := hb
    have := xr_put (xEndText s) (List.replicate 18 0) (xEndText s).bad
    rw [List.length_replicate] at this
    show xr { xEndText s with B := (xEndText s).B ++ List.replicate 18 0 } ≤ _
    rw [this]
    unfold xEndText at hb' ⊢
    rcases text_ways s with ⟨_, e⟩ | ⟨t, ts, _, e, h⟩
    · rw [e] at hb'; cases hb'
    · rw [e, xr_ended]; show xr { s with T := ts } + (t.length + 1) + 18 ≤ _; omega
theorem bad_raw {n : Int} {s : XS} (h : s.bad = true) : (xRaw n s).bad = true := by
  show ((xText s).2.bad || _) = true
  rw [bad_text h]; rfl
theorem xr_raw (n : Int) (s : XS) : xr (xRaw n s) ≤ xr s := by
  unfold xRaw
  rw [xr_put]
  rcases text_ways s with ⟨_, e⟩ | ⟨t, ts, _, e, h⟩
  · rw [e]; exact Nat.le_refl _
  · rw [e]; show xr { s with T := ts } + t.length ≤ _; omega
theorem step_value : Step 4 xValue where
  bad := fun s h => by
    unfold xValue
    simp only
    split
    · exact bad_raw (bad_number (bad_num h))
    · exact bad_number (bad_num h)
  room := fun s => by
    have h1 : xr (xNumber (xNum s).1 4 (-1) 10000 (xNum s).2) ≤ xr s + 4 := by
      have := xr_number (xNum s).1 4 (-1) 10000 (xNum s).2
      have h2 : xr (xNum s).2 ≤ xr s := by
        rcases num_ways s with ⟨_, e⟩ | ⟨t, ts, _, e, h⟩
        · rw [e]; exact Nat.le_refl _
        · rw [e]; show xr { s with N := ts } ≤ _; omega
      omega
    unfold xValue
    simp only
    split
    · exact Nat.le_trans (xr_raw _ _) h1
    · exact h1
  good := fun s hb => by
    unfold xValue at hb ⊢
    simp only at hb ⊢
    rcases num_ways s with ⟨_, e⟩ | ⟨t, ts, _, e, h⟩
    · exfalso
      rw [e] at hb
      split at hb
      · rw [bad_raw (bad_number rfl)] at hb; cases hb
      · rw [bad_number rfl] at hb; cases hb
    · rw [e]
      have h1 := xr_number t 4 (-1) 10000 { s with N := ts }
      have h2 := xr_raw t (xNumber t 4 (-1) 10000 { s with N := ts })
      split
      · show xr (xRaw t (xNumber t 4 (-1) 10000 { s with N := ts })) ≤ _; omega
      · show xr (xNumber t 4 (-1) 10000 { s with N := ts }) ≤ _; omega
theorem Step.mono {a b : Nat} {f : XS → XS} (h : Step a f) (hab : a ≤ b) : Step b f where
  bad := h.bad
  room := fun s => Nat.le_trans (h.room s) (Nat.add_le_add_left hab _)
  good := h.good
theorem step_one (c : UInt8) : Step 19 (xOne c) := by
  by_cases h1 : c = 99
  · have : xOne c = xNumF (-32768) 32767 2 := by funext s; unfold xOne; rw [if_pos h1]
    rw [this]; exact (step_numf (by decide)).mono (by decide)
  by_cases h2 : c = 108
  · have : xOne c = xNumF (-2147483648) 2147483647 4 := by funext s; unfold xOne; rw [if_neg h1, if_pos h2]
    rw [this]; exact (step_numf (by decide)).mono (by decide)
  by_cases h3 : c = 109
  · have : xOne c = xName := by funext s; unfold xOne; rw [if_neg h1, if_neg h2, if_pos h3]
    rw [this]; exact step_name
  · have : xOne c = xValue := by funext s; unfold xOne; rw [if_neg h1, if_neg h2, if_neg h3]
    rw [this]; exact step_value.mono (by decide)
theorem rep_bad {f : XS → XS} {s : XS} (h : s.bad = true) : ∀ n, xRep n f s = s
  | 0 => rfl
  | n + 1 => by rw [xRep, if_pos h]
theorem step_rep {d : Nat} {f : XS → XS} (hf : Step d f) : ∀ n, Step d (xRep n f)
  | 0 => ⟨fun _ h => h, fun _ => Nat.le_add_right _ _, fun _ _ => Nat.le_refl _⟩
  | n + 1 => by
    have ih := step_rep hf n
    refine ⟨fun s h => by rw [rep_bad h]; exact h, fun s => ?_, fun s hb => ?_⟩
    · cases hs : s.bad with
      | true => rw [rep_bad hs]; exact Nat.le_add_right _ _
      | false =>
        rw [xRep, if_neg (by rw [hs]; decide)]
        cases hb : (f s).bad with
        | true => rw [rep_bad hb]; exact hf.room s
        | false => exact Nat.le_trans (ih.room _) (Nat.add_le_add_right (hf.good s hb) _)
    · cases hs : s.bad with
      | true => rw [rep_bad hs]; exact Nat.le_refl _
      | false =>
        rw [xRep, if_neg (by rw [hs]; decide)] at hb ⊢
        have h1 := ih.good _ hb
        have h2 : (f s).bad = false := by
          cases hb2 : (f s).bad with
          | false => rfl
          | true => have := ih.bad _ hb2; rw [hb] at this; cases this
        exact Nat.le_trans h1 (hf.good s h2)
end Go.Proofs.Ytfdffiphlpeegaa
