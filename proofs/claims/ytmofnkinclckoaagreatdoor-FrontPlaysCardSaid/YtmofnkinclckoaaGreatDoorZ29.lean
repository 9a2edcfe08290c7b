/- Contracts and mathematics: QDM, EM. -/
import Derived.Test.YtmofnkinclckoaaGreatDoorZ28
import Derived.Test.YtmofnkinclckoaaGreatDoorZ11
import Derived.Test.YtmofnkinclckoaaGreatDoorZ15
import Derived.Test.YtmofnkinclckoaaGreatDoorZ22
import Derived.Test.YtmofnkinclckoaaGreatDoorZ5
import Derived.Test.YtmofnkinclckoaaGreatDoorZ6
namespace Go.Proofs.YtmofnkinclckoaaGreatDoor
open Go.RowKit Go.Lib Go.WideShapes

/-- If the body can be read: what is read at the letter i of the layout l. -/
def qInv (back : Bool) (c : UInt8) (S : Bs) (l : Bs) (i : Nat) (q : QS) : Prop := ∀ T N, readL back c S = some (T, N) → q.bad = false ∧ (i = 0 → lay back c = some l ∧ q.s = ⟨S, [], []⟩) ∧ (0 < i → rAll (l.drop i) q.s = some ⟨[], T, N⟩)
/-- Is it a cancel's body, by its first number? -/
def qCan (back : Bool) (c : UInt8) (i : Nat) (N : List Int) : Bool := decide (i = 0 ∧ back = false ∧ c = 0 ∧ N.head? = some 80877102)
theorem readL_of {back : Bool} {c : UInt8} {S : Bs} {T : List Bs} {N : List Int} (h : readL back c S = some (T, N)) : ∃ L, layR back c S = some L ∧ rAll L ⟨S, [], []⟩ = some ⟨[], T, N⟩ := by
  unfold readL at h
  cases hl : layR back c S with
  | none => rw [hl] at h; cases h
  | some L =>
    rw [hl] at h
    have h1 : (rAll L ⟨S, [], []⟩).bind rDone = some (T, N) := h
    cases hr : rAll L ⟨S, [], []⟩ with
    | none => rw [hr] at h1; cases h1
    | some s1 =>
      rw [hr] at h1
      have h2 : rDone s1 = some (T, N) := h1
      unfold rDone at h2
      split at h2
      · rename_i hS
        obtain ⟨rfl, rfl⟩ := Prod.mk.inj (Option.some.inj h2)
        refine ⟨L, rfl, ?_⟩
        rw [← hS]
        exact hr
      · cases h2
theorem rAll_consQ {d : UInt8} {l : Bs} {s s2 : RS} (h : rAll (d :: l) s = some s2) : ∃ s1, rField d s = some s1 ∧ rAll l s1 = some s2 := by
  have h1 : (rField d s).bind (rAll l) = some s2 := h
  cases hx : rField d s with
  | none => rw [hx] at h1; cases h1
  | some s1 => rw [hx] at h1; exact ⟨s1, rfl, h1⟩
theorem qinv_step {back : Bool} {c d : UInt8} {S l : Bs} {i : Nat} {q q1 : QS} (h : qInv back c S l i q) (hd : l[i]? = some d) (h1 : ∀ s1, rField d q.s = some s1 → q1 = ⟨s1, false⟩) : qInv back c S (if qCan back c i q1.s.N then [105, 105, 105] else l) (i + 1) q1 := by
  intro T N hr
  obtain ⟨hb, h0, hp⟩ := h T N hr
  have hdr : l.drop i = d :: l.drop (i + 1) := by
    obtain ⟨hl, he⟩ := List.getElem?_eq_some_iff.1 hd
    rw [List.drop_eq_getElem_cons hl, he]
  by_cases hi : i = 0
  · subst hi
    obtain ⟨hlay, hq⟩ := h0 rfl
    obtain ⟨L, hL, hA⟩ := readL_of hr
    have hl1 : l = d :: l.drop 1 := by have := hdr; simpa using this
    by_cases hz : back = false ∧ c = 0
    · obtain ⟨rfl, rfl⟩ := hz
      have hl2 : l = [105, 112] := by rw [lay_bare] at hlay; exact (Option.some.inj hlay).symm
      have hd2 : d = 105 := by rw [hl2] at hd; exact (Option.some.inj hd).symm
      subst hd2
      have hL2 : ∃ L', L = 105 :: L' ∧ (L' = if isCancel S = true then [105, 105] else [112]) := by
        unfold layR at hL
        by_cases hc : isCancel S = true
        · rw [if_pos ⟨rfl, rfl, hc⟩] at hL
          exact ⟨[105, 105], (Option.some.inj hL).symm, by rw [if_pos hc]⟩
        · rw [if_neg (fun h => hc h.2.2), lay_bare] at hL
          exact ⟨[112], (Option.some.inj hL).symm, by rw [if_neg hc]⟩
      obtain ⟨L', rfl, hL'⟩ := hL2
      obtain ⟨s1, hf, hrest⟩ := rAll_consQ hA
      rw [← hq] at hf
      obtain rfl := h1 s1 hf
      have hcan : isCancel S = decide (s1.N.head? = some 80877102) := by
        apply first_r (l := [])
        show (rField 105 ⟨S, [], []⟩).bind some = some s1
        rw [← hq, hf]; rfl
      refine ⟨rfl, fun h => absurd h (Nat.succ_ne_zero 0), fun _ => ?_⟩
      unfold qCan
      by_cases hh : s1.N.head? = some 80877102
      · rw [if_pos (decide_eq_true ⟨rfl, rfl, rfl, hh⟩)]
        rw [hL', hcan, if_pos (decide_eq_true hh)] at hrest
        exact hrest
      · rw [if_neg (fun h => hh (of_decide_eq_true h).2.2.2), hl2]
        rw [hL', hcan, if_neg (fun h => hh (of_decide_eq_true h))] at hrest
        exact hrest
    · have hL2 : L = l := by
        unfold layR at hL
        rw [if_neg (fun h => hz ⟨h.1, h.2.1⟩), hlay] at hL
        exact (Option.some.inj hL).symm
      rw [hL2, hl1] at hA
      obtain ⟨s1, hf, hrest⟩ := rAll_consQ hA
      rw [← hq] at hf
      obtain rfl := h1 s1 hf
      refine ⟨rfl, fun h => absurd h (Nat.succ_ne_zero 0), fun _ => ?_⟩
      unfold qCan
      rw [if_neg (fun h => hz ⟨(of_decide_eq_true h).2.1, (of_decide_eq_true h).2.2.1⟩)]
      exact hrest
  · have hA := hp (Nat.pos_of_ne_zero hi)
    rw [hdr] at hA
    obtain ⟨s1, hf, hrest⟩ := rAll_consQ hA
    obtain rfl := h1 s1 hf
    refine ⟨rfl, fun h => absurd h (Nat.succ_ne_zero i), fun _ => ?_⟩
    unfold qCan
    rw [if_neg (fun h => hi (of_decide_eq_true h).1)]
    exact hrest
theorem qinv_end {back : Bool} {c : UInt8} {S l : Bs} {i : Nat} {q : QS} (h : qInv back c S l i q) (hi : l.length ≤ i) : ∀ T N, readL back c S = some (T, N) → q = ⟨⟨[], T, N⟩, false⟩ := by
  intro T N hr
  obtain ⟨hb, h0, hp⟩ := h T N hr
  have hs : q.s = ⟨[], T, N⟩ := by
    by_cases hz : i = 0
    · subst hz
      obtain ⟨hlay, hq⟩ := h0 rfl
      obtain rfl : l = [] := List.length_eq_zero_iff.1 (Nat.le_zero.1 hi)
      obtain ⟨L, hL, hA⟩ := readL_of hr
      have hL2 : L = [] := by
        unfold layR at hL
        by_cases hc : back = false ∧ c = 0 ∧ isCancel S = true
        · obtain ⟨rfl, rfl, _⟩ := hc
          rw [lay_bare] at hlay; cases hlay
        · rw [if_neg hc, hlay] at hL
          exact (Option.some.inj hL).symm
      subst hL2
      rw [hq]
      exact Option.some.inj hA
    · have := hp (Nat.pos_of_ne_zero hz)
      rw [List.drop_eq_nil_of_le hi] at this
      exact Option.some.inj this
  cases q with | mk a b => cases hb; cases hs; rfl
theorem qinv_bad {back : Bool} {c : UInt8} {S l : Bs} {i : Nat} {q : QS} (h : qInv back c S l i q) (hb : q.bad = true) : readL back c S = none := by
  cases hr : readL back c S with
  | none => rfl
  | some p => have := (h p.1 p.2 hr).1; rw [hb] at this; cases this
theorem qpot_bounds {s : RS} {n : Nat} (h : qpot s ≤ n) : s.T.length ≤ n ∧ room ⟨s.T, s.N, []⟩ ≤ 23 * n := by
  unfold qpot at h
  refine ⟨by omega, ?_⟩
  show 0 + ((s.T.map fun t => t.length + 19).sum + 4 * s.N.length) ≤ _
  rw [sum19]
  omega
end Go.Proofs.YtmofnkinclckoaaGreatDoor

namespace Go.Proofs.YtmofnkinclckoaaGreatDoor

/-- What is left of a message, what is written; was it wrong? -/
structure XS where
  T : List Bs
  N : List Int
  B : Bs
  bad : Bool

def XS.ws (s : XS) : WS := ⟨s.T, s.N, s.B⟩
def xr (s : XS) : Nat := room s.ws
def xNum (s : XS) : Int × XS := match s.N with | [] => (0, { s with bad := true }) | n :: ns => (n, { s with N := ns })
def xText (s : XS) : Bs × XS := match s.T with | [] => ([], { s with bad := true }) | t :: ts => (t, { s with T := ts })
def xEnded (t : Bs) (s : XS) : XS := { s with bad := s.bad || decide ((0 : UInt8) ∈ t), B := s.B ++ (t ++ [0]) }
def xNumber (n : Int) (k : Nat) (l m : Int) (s : XS) : XS := if l ≤ n ∧ n ≤ m then { s with B := s.B ++ be k n } else { s with bad := true }
def xCount (most : Int) (s : XS) : Int × XS := if 0 ≤ (xNum s).1 ∧ (xNum s).1 ≤ most then xNum s else (0, { (xNum s).2 with bad := true })
def xRep : Nat → (XS → XS) → XS → XS
  | 0, _, s => s
  | n + 1, f, s => if s.bad then s else xRep n f (f s)
def xEndText (s : XS) : XS := xEnded (xText s).1 (xText s).2
def xNumF (l m : Int) (k : Nat) (s : XS) : XS := xNumber (xNum s).1 k l m (xNum s).2
def xPair (s : XS) : XS := xEnded (xText s).1 { (xText s).2 with bad := (xText s).2.bad || decide ((xText s).1 = []) }
def xItem (s : XS) : XS := xEndText (xNumF 1 255 1 s)
def xZero (s : XS) : XS := { s with B := s.B ++ [0] }
def xPairs (s : XS) : XS :=
  let p := xCount 10000 s
  let r := xRep p.1.toNat xPair p.2
  xZero { r with bad := r.bad || decide (p.1 % 2 = 1) }
def xFields (s : XS) : XS :=
  let p := xCount 10000 s
  xZero (xRep p.1.toNat xItem p.2)
def xTail (s : XS) : XS := { s with B := s.B ++ List.replicate 18 0 }
def xName (s : XS) : XS := xTail (xEndText s)
def xRaw (n : Int) (s : XS) : XS := { (xText s).2 with bad := (xText s).2.bad || decide (¬ ((xText s).1.length : Int) = n), B := (xText s).2.B ++ (xText s).1 }
def xValue (s : XS) : XS :=
  let p := xNum s
  let r := xNumber p.1 4 (-1) 10000 p.2
  if 0 ≤ p.1 then xRaw p.1 r else r
def xOne (c : UInt8) (s : XS) : XS :=
  if c = 99 then xNumF (-32768) 32767 2 s
  else if c = 108 then xNumF (-2147483648) 2147483647 4 s
  else if c = 109 then xName s
  else xValue s
def xRow (c : UInt8) (s : XS) : XS :=
  let p := xCount 100 s
  xRep p.1.toNat (xOne c) (xNumber p.1 2 0 100 p.2)
def xField (c : UInt8) (s : XS) : XS :=
  if c = 115 then xEndText s
  else if c = 98 then xNumF 0 255 1 s
  else if c = 104 then xNumF (-32768) 32767 2 s
  else if c = 105 then xNumF (-2147483648) 2147483647 4 s
  else if c = 112 then xPairs s
  else if c = 102 then xFields s
  else xRow c s
def xAll : Bs → XS → XS
  | [], s => s
  | c :: l, s => if s.bad then s else xAll l (xField c s)

/-! ### how much there is, and that what is wrong stays so -/
/-- A step: what is wrong stays wrong; it puts no more than there is, and at most d more if it is wrong. -/
structure Step (d : Nat) (f : XS → XS) : Prop where
  bad : ∀ s, s.bad = true → (f s).bad = true
  room : ∀ s, xr (f s) ≤ xr s + d
  good : ∀ s, (f s).bad = false → xr (f s) ≤ xr s

theorem xr_eq (s : XS) : xr s = s.B.length + ((s.T.map fun t => t.length + 19).sum + 4 * s.N.length) := rfl
theorem num_ways (s : XS) : (s.N = [] ∧ xNum s = (0, { s with bad := true })) ∨ (∃ n ns, s.N = n :: ns ∧ xNum s = (n, { s with N := ns }) ∧ xr { s with N := ns } + 4 = xr s) := by
  unfold xNum
  cases h : s.N with
  | nil => exact .inl ⟨rfl, rfl⟩
  | cons n ns =>
    refine .inr ⟨n, ns, rfl, rfl, ?_⟩
    rw [xr_eq, xr_eq, h, List.length_cons]
    show s.B.length + ((s.T.map fun t => t.length + 19).sum + 4 * ns.length) + 4 = _
    omega
theorem text_ways (s : XS) : (s.T = [] ∧ xText s = ([], { s with bad := true })) ∨ (∃ t ts, s.T = t :: ts ∧ xText s = (t, { s with T := ts }) ∧ xr { s with T := ts } + (t.length + 19) = xr s) := by
  unfold xText
  cases h : s.T with
  | nil => exact .inl ⟨rfl, rfl⟩
  | cons t ts =>
    refine .inr ⟨t, ts, rfl, rfl, ?_⟩
    rw [xr_eq, xr_eq, h, List.map_cons, List.sum_cons]
    show s.B.length + ((ts.map fun t => t.length + 19).sum + 4 * s.N.length) + (t.length + 19) = _
    omega
theorem xr_put (s : XS) (b : Bs) (d : Bool) : xr { s with B := s.B ++ b, bad := d } = xr s + b.length := by
  rw [xr_eq, xr_eq]
  show (s.B ++ b).length + _ = _
  rw [List.length_append]
  show s.B.length + b.length + ((s.T.map fun t => t.length + 19).sum + 4 * s.N.length) = _
  omega
theorem xr_bad (s : XS) (d : Bool) : xr { s with bad := d } = xr s := rfl
theorem xr_ended (t : Bs) (s : XS) : xr (xEnded t s) = xr s + (t.length + 1) := by
  unfold xEnded
  rw [xr_put, List.length_append]; rfl
theorem xr_number (n : Int) (k : Nat) (l m : Int) (s : XS) : xr (xNumber n k l m s) ≤ xr s + k := by
  unfold xNumber
  split
  · have := xr_put s (be k n) s.bad
    rw [be_length] at this
    exact Nat.le_of_eq this
  · exact Nat.le_add_right _ _
theorem bad_number {n : Int} {k : Nat} {l m : Int} {s : XS} (h : s.bad = true) : (xNumber n k l m s).bad = true := by
  unfold xNumber
  split
  · exact h
  · rfl
theorem bad_num {s : XS} (h : s.bad = true) : (xNum s).2.bad = true := by
  rcases num_ways s with ⟨_, e⟩ | ⟨n, ns, _, e, _⟩
  · rw [e]
  · rw [e]; exact h
theorem bad_text {s : XS} (h : s.bad = true) : (xText s).2.bad = true := by
  rcases text_ways s with ⟨_, e⟩ | ⟨n, ns, _, e, _⟩
  · rw [e]
  · rw [e]; exact h
theorem bad_ended {t : Bs} {s : XS} (h : s.bad = true) : (xEnded t s).bad = true := by
  show (s.bad || _) = true
  rw [h]; rfl
theorem step_endtext : Step 1 xEndText where
  bad := fun s h => bad_ended (bad_text h)
  room := fun s => by
    unfold xEndText
    rcases text_ways s with ⟨_, e⟩ | ⟨t, ts, _, e, h⟩
    · rw [e, xr_ended]; exact Nat.le_refl _
    · rw [e, xr_ended]; show xr { s with T := ts } + (t.length + 1) ≤ _; omega
  good := fun s hb => by
    unfold xEndText at hb ⊢
    rcases text_ways s with ⟨_, e⟩ | ⟨t, ts, _, e, h⟩
    · rw [e] at hb; cases hb
    · rw [e, xr_ended]; show xr { s with T := ts } + (t.length + 1) ≤ _; omega
theorem step_numf {l m : Int} {k : Nat} (hk : k ≤ 4) : Step 4 (xNumF l m k) where
  bad := fun s h => bad_number (bad_num h)
  room := fun s => by
    unfold xNumF
    rcases num_ways s with ⟨_, e⟩ | ⟨t, ts, _, e, h⟩
    · rw [e]; have := xr_number 0 k l m { s with bad := true }; have e2 : xr { s with bad := true } = xr s := rfl; show xr (xNumber 0 k l m { s with bad := true }) ≤ _; omega
    · rw [e]; have := xr_number t k l m { s with N := ts }; show xr (xNumber t k l m { s with N := ts }) ≤ _; omega
  good := fun s hb => by
    unfold xNumF at hb ⊢
    rcases num_ways s with ⟨_, e⟩ | ⟨t, ts, _, e, h⟩
    · rw [e] at hb; rw [bad_number rfl] at hb; cases hb
    · rw [e]; have := xr_number t k l m { s with N := ts }; show xr (xNumber t k l m { s with N := ts }) ≤ _; omega
theorem Step.comp {a b : Nat} {f g : XS → XS} (hf : Step a f) (hg : Step b g) : Step (a + b) (fun s => g (f s)) where
  bad := fun s h => hg.bad _ (hf.bad s h)
  room := fun s => by have h1 := hf.room s; have h2 := hg.room (f s); show xr (g (f s)) ≤ _; omega
  good := fun s h => by
    have h1 := hg.good (f s) h
    have h2 : (f s).bad = false := by
      cases hb : (f s).bad with
      | false => rfl
      | true => have := hg.bad _ hb; rw [show (g (f s)).bad = false from h] at this; cases this
    have h3 := hf.good s h2
    show xr (g (f s)) ≤ _
    omega
theorem step_item : Step 5 xItem := (step_numf (by decide)).comp step_endtext
theorem step_pair : Step 1 xPair where
  bad := fun s h => by
    unfold xPair
    exact bad_ended (by show ((xText s).2.bad || _) = true; rw [bad_text h]; rfl)
  room := fun s => by
    unfold xPair
    rw [xr_ended, xr_bad]
    rcases text_ways s with ⟨_, e⟩ | ⟨t, ts, _, e, h⟩
    · rw [e]; exact Nat.le_refl _
    · rw [e]; show xr { s with T := ts } + (t.length + 1) ≤ _; omega
  good := fun s hb => by
    unfold xPair at hb ⊢
    rw [xr_ended, xr_bad]
    rcases text_ways s with ⟨_, e⟩ | ⟨t, ts, _, e, h⟩
    · rw [e] at hb; cases hb
    · rw [e]; show xr { s with T := ts } + (t.length + 1) ≤ _; omega
theorem step_name : Step 19 xName where
  bad := fun s h => step_endtext.bad s h
  room := fun s => by
    have h1 := step_endtext.room s
    have := xr_put (xEndText s) (List.replicate 18 0) (xEndText s).bad
    rw [List.length_replicate] at this
    show xr { xEndText s with B := (xEndText s).B ++ List.replicate 18 0 } ≤ _
    rw [this]; omega
  good := fun s hb => by
    have hb' : (xEndText s).bad = false := hb
    have := xr_put (xEndText s) (List.replicate 18 0) (xEndText s).bad
    rw [List.length_replicate] at this
    show xr { xEndText s with B := (xEndText s).B ++ List.replicate 18 0 } ≤ _
    rw [this]
    unfold xEndText at hb' ⊢
    rcases text_ways s with ⟨_, e⟩ | ⟨t, ts, _, e, h⟩
    · rw [e] at hb'; cases hb'
    · rw [e, xr_ended]; show xr { s with T := ts } + (t.length + 1) + 18 ≤ _; omega
theorem bad_raw {n : Int} {s : XS} (h : s.bad = true) : (xRaw n s).bad = true := by
  show ((xText s).2.bad || _) = true
  rw [bad_text h]; rfl
theorem xr_raw (n : Int) (s : XS) : xr (xRaw n s) ≤ xr s := by
  unfold xRaw
  rw [xr_put]
  rcases text_ways s with ⟨_, e⟩ | ⟨t, ts, _, e, h⟩
  · rw [e]; exact Nat.le_refl _
  · rw [e]; show xr { s with T := ts } + t.length ≤ _; omega
theorem step_value : Step 4 xValue where
  bad := fun s h => by
    unfold xValue
    simp only
    split
    · exact bad_raw (bad_number (bad_num h))
    · exact bad_number (bad_num h)
  room := fun s => by
    have h1 : xr (xNumber (xNum s).1 4 (-1) 10000 (xNum s).2) ≤ xr s + 4 := by
      have := xr_number (xNum s).1 4 (-1) 10000 (xNum s).2
      have h2 : xr (xNum s).2 ≤ xr s := by
        rcases num_ways s with ⟨_, e⟩ | ⟨t, ts, _, e, h⟩
        · rw [e]; exact Nat.le_refl _
        · rw [e]; show xr { s with N := ts } ≤ _; omega
      omega
    unfold xValue
    simp only
    split
    · exact Nat.le_trans (xr_raw _ _) h1
    · exact h1
  good := fun s hb => by
    unfold xValue at hb ⊢
    simp only at hb ⊢
    rcases num_ways s with ⟨_, e⟩ | ⟨t, ts, _, e, h⟩
    · exfalso
      rw [e] at hb
      split at hb
      · rw [bad_raw (bad_number rfl)] at hb; cases hb
      · rw [bad_number rfl] at hb; cases hb
    · rw [e]
      have h1 := xr_number t 4 (-1) 10000 { s with N := ts }
      have h2 := xr_raw t (xNumber t 4 (-1) 10000 { s with N := ts })
      split
      · show xr (xRaw t (xNumber t 4 (-1) 10000 { s with N := ts })) ≤ _; omega
      · show xr (xNumber t 4 (-1) 10000 { s with N := ts }) ≤ _; omega
theorem Step.mono {a b : Nat} {f : XS → XS} (h : Step a f) (hab : a ≤ b) : Step b f where
  bad := h.bad
  room := fun s => Nat.le_trans (h.room s) (Nat.add_le_add_left hab _)
  good := h.good
theorem step_one (c : UInt8) : Step 19 (xOne c) := by
  by_cases h1 : c = 99
  · have : xOne c = xNumF (-32768) 32767 2 := by funext s; unfold xOne; rw [if_pos h1]
    rw [this]; exact (step_numf (by decide)).mono (by decide)
  by_cases h2 : c = 108
  · have : xOne c = xNumF (-2147483648) 2147483647 4 := by funext s; unfold xOne; rw [if_neg h1, if_pos h2]
    rw [this]; exact (step_numf (by decide)).mono (by decide)
  by_cases h3 : c = 109
  · have : xOne c = xName := by funext s; unfold xOne; rw [if_neg h1, if_neg h2, if_pos h3]
    rw [this]; exact step_name
  · have : xOne c = xValue := by funext s; unfold xOne; rw [if_neg h1, if_neg h2, if_neg h3]
    rw [this]; exact step_value.mono (by decide)
theorem rep_bad {f : XS → XS} {s : XS} (h : s.bad = true) : ∀ n, xRep n f s = s
  | 0 => rfl
  | n + 1 => by rw [xRep, if_pos h]
theorem step_rep {d : Nat} {f : XS → XS} (hf : Step d f) : ∀ n, Step d (xRep n f)
  | 0 => ⟨fun _ h => h, fun _ => Nat.le_add_right _ _, fun _ _ => Nat.le_refl _⟩
  | n + 1 => by
    have ih := step_rep hf n
    refine ⟨fun s h => by rw [rep_bad h]; exact h, fun s => ?_, fun s hb => ?_⟩
    · cases hs : s.bad with
      | true => rw [rep_bad hs]; exact Nat.le_add_right _ _
      | false =>
        rw [xRep, if_neg (by rw [hs]; decide)]
        cases hb : (f s).bad with
        | true => rw [rep_bad hb]; exact hf.room s
        | false => exact Nat.le_trans (ih.room _) (Nat.add_le_add_right (hf.good s hb) _)
    · cases hs : s.bad with
      | true => rw [rep_bad hs]; exact Nat.le_refl _
      | false =>
        rw [xRep, if_neg (by rw [hs]; decide)] at hb ⊢
        have h1 := ih.good _ hb
        have h2 : (f s).bad = false := by
          cases hb2 : (f s).bad with
          | false => rfl
          | true => have := ih.bad _ hb2; rw [hb] at this; cases this
        exact Nat.le_trans h1 (hf.good s h2)
end Go.Proofs.YtmofnkinclckoaaGreatDoor
