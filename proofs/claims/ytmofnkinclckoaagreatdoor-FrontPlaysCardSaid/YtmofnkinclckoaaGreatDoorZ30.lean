/- Contracts and mathematics: EA, EW. -/
import Derived.Test.YtmofnkinclckoaaGreatDoorZ29
import Derived.Test.YtmofnkinclckoaaGreatDoorZ15
import Derived.Deep.Cut
namespace Go.Proofs.YtmofnkinclckoaaGreatDoor

theorem count_room (m : Int) (s : XS) : xr (xCount m s).2 ≤ xr s ∧ ((xCount m s).2.bad = false → xr (xCount m s).2 + 4 ≤ xr s) ∧ (s.bad = true → (xCount m s).2.bad = true) := by
  unfold xCount
  rcases num_ways s with ⟨_, e⟩ | ⟨n, ns, _, e, h⟩
  · rw [e]
    split
    · exact ⟨Nat.le_refl _, (by rintro ⟨⟩), fun _ => rfl⟩
    · exact ⟨Nat.le_refl _, (by rintro ⟨⟩), fun _ => rfl⟩
  · rw [e]
    split
    · exact ⟨(by show xr { s with N := ns } ≤ _; omega), fun _ => (by show xr { s with N := ns } + 4 ≤ _; omega), fun h => h⟩
    · exact ⟨(by show xr { s with N := ns } ≤ _; omega), (by rintro ⟨⟩), fun _ => rfl⟩
theorem xr_zero (s : XS) : xr (xZero s) = xr s + 1 := xr_put s [0] s.bad
theorem step_pairs : Step 2 xPairs where
  bad := fun s h => by
    show ((xRep _ xPair (xCount 10000 s).2).bad || _) = true
    rw [(step_rep step_pair _).bad _ ((count_room 10000 s).2.2 h)]; rfl
  room := fun s => by
    have h1 := (count_room 10000 s).1
    have h2 := (step_rep step_pair (xCount 10000 s).1.toNat).room (xCount 10000 s).2
    unfold xPairs
    simp only
    rw [xr_zero, xr_bad]
    omega
  good := fun s hb => by
    have hb1 : ((xRep (xCount 10000 s).1.toNat xPair (xCount 10000 s).2).bad || decide ((xCount 10000 s).1 % 2 = 1)) = false := hb
    rw [Bool.or_eq_false_iff] at hb1
    have h2 := (step_rep step_pair (xCount 10000 s).1.toNat).good (xCount 10000 s).2 hb1.1
    have h3 : (xCount 10000 s).2.bad = false := by
      cases h : (xCount 10000 s).2.bad with
      | false => rfl
      | true => have := (step_rep step_pair (xCount 10000 s).1.toNat).bad _ h; rw [hb1.1] at this; cases this
    have h4 := (count_room 10000 s).2.1 h3
    unfold xPairs
    simp only
    rw [xr_zero, xr_bad]
    omega
theorem step_fields : Step 6 xFields where
  bad := fun s h => (step_rep step_item _).bad _ ((count_room 10000 s).2.2 h)
  room := fun s => by
    have h1 := (count_room 10000 s).1
    have h2 := (step_rep step_item (xCount 10000 s).1.toNat).room (xCount 10000 s).2
    unfold xFields
    simp only
    rw [xr_zero]
    omega
  good := fun s hb => by
    have hb1 : (xRep (xCount 10000 s).1.toNat xItem (xCount 10000 s).2).bad = false := hb
    have h2 := (step_rep step_item (xCount 10000 s).1.toNat).good (xCount 10000 s).2 hb1
    have h3 : (xCount 10000 s).2.bad = false := by
      cases h : (xCount 10000 s).2.bad with
      | false => rfl
      | true => have := (step_rep step_item (xCount 10000 s).1.toNat).bad _ h; rw [hb1] at this; cases this
    have h4 := (count_room 10000 s).2.1 h3
    unfold xFields
    simp only
    rw [xr_zero]
    omega
theorem step_row (c : UInt8) : Step 21 (xRow c) where
  bad := fun s h => (step_rep (step_one c) _).bad _ (bad_number ((count_room 100 s).2.2 h))
  room := fun s => by
    have h1 := (count_room 100 s).1
    have h0 := xr_number (xCount 100 s).1 2 0 100 (xCount 100 s).2
    have h2 := (step_rep (step_one c) (xCount 100 s).1.toNat).room (xNumber (xCount 100 s).1 2 0 100 (xCount 100 s).2)
    unfold xRow
    simp only
    omega
  good := fun s hb => by
    have hb1 : (xRep (xCount 100 s).1.toNat (xOne c) (xNumber (xCount 100 s).1 2 0 100 (xCount 100 s).2)).bad = false := hb
    have h0 := xr_number (xCount 100 s).1 2 0 100 (xCount 100 s).2
    have h2 := (step_rep (step_one c) (xCount 100 s).1.toNat).good _ hb1
    have h3 : (xCount 100 s).2.bad = false := by
      cases h : (xCount 100 s).2.bad with
      | false => rfl
      | true => have := (step_rep (step_one c) (xCount 100 s).1.toNat).bad _ (bad_number (n := (xCount 100 s).1) (k := 2) (l := 0) (m := 100) h); rw [hb1] at this; cases this
    have h4 := (count_room 100 s).2.1 h3
    unfold xRow
    simp only
    omega
theorem step_field (c : UInt8) : Step 21 (xField c) := by
  by_cases h1 : c = 115
  · rw [show xField c = xEndText by funext s; unfold xField; rw [if_pos h1]]; exact step_endtext.mono (by decide)
  by_cases h2 : c = 98
  · rw [show xField c = xNumF 0 255 1 by funext s; unfold xField; rw [if_neg h1, if_pos h2]]; exact (step_numf (by decide)).mono (by decide)
  by_cases h3 : c = 104
  · rw [show xField c = xNumF (-32768) 32767 2 by funext s; unfold xField; rw [if_neg h1, if_neg h2, if_pos h3]]; exact (step_numf (by decide)).mono (by decide)
  by_cases h4 : c = 105
  · rw [show xField c = xNumF (-2147483648) 2147483647 4 by funext s; unfold xField; rw [if_neg h1, if_neg h2, if_neg h3, if_pos h4]]; exact (step_numf (by decide)).mono (by decide)
  by_cases h5 : c = 112
  · rw [show xField c = xPairs by funext s; unfold xField; rw [if_neg h1, if_neg h2, if_neg h3, if_neg h4, if_pos h5]]; exact step_pairs.mono (by decide)
  by_cases h6 : c = 102
  · rw [show xField c = xFields by funext s; unfold xField; rw [if_neg h1, if_neg h2, if_neg h3, if_neg h4, if_neg h5, if_pos h6]]; exact step_fields.mono (by decide)
  · rw [show xField c = xRow c by funext s; unfold xField; rw [if_neg h1, if_neg h2, if_neg h3, if_neg h4, if_neg h5, if_neg h6]]; exact step_row c

/-! ### agreement -/
def Agree (x : XS) (r : Option WS) : Prop := (x.bad = true ∧ r = none) ∨ (x.bad = false ∧ r = some x.ws)
def Ag (f : XS → XS) (g : WS → Option WS) : Prop := ∀ s, s.bad = false → Agree (f s) (g s.ws)
theorem ag_comp {f1 f2 : XS → XS} {g1 g2 : WS → Option WS} (h1 : Ag f1 g1) (h2 : Ag f2 g2) (hs : ∀ s, s.bad = true → (f2 s).bad = true) : Ag (fun s => f2 (f1 s)) (fun s => (g1 s).bind g2) := by
  intro s hb
  rcases h1 s hb with ⟨e1, e2⟩ | ⟨e1, e2⟩
  · exact .inl ⟨hs _ e1, by simp only [e2]; rfl⟩
  · have := h2 (f1 s) e1
    simp only [e2]
    exact this
theorem ag_endtext : Ag xEndText wText := by
  intro s hb
  unfold xEndText wText
  rcases text_ways s with ⟨e0, e⟩ | ⟨t, ts, e0, e, h⟩
  · rw [e, show s.ws.T = [] from e0]
    exact .inl ⟨rfl, rfl⟩
  · rw [e, show s.ws.T = t :: ts from e0]
    simp only
    by_cases h0 : (0 : UInt8) ∈ t
    · rw [if_pos h0]
      exact .inl ⟨by show (s.bad || decide _) = true; rw [decide_eq_true h0]; simp, rfl⟩
    · rw [if_neg h0]
      exact .inr ⟨by show (s.bad || decide _) = false; rw [decide_eq_false h0, hb]; rfl, rfl⟩
theorem ag_numf (l m : Int) (k : Nat) : Ag (xNumF l m k) (fun s => (wNumber l m k s).map (·.2)) := by
  intro s hb
  show Agree _ ((wNumber l m k s.ws).map (·.2))
  unfold xNumF wNumber wNum
  rcases num_ways s with ⟨e0, e⟩ | ⟨t, ts, e0, e, h⟩
  · rw [e, show s.ws.N = [] from e0]
    exact .inl ⟨bad_number rfl, rfl⟩
  · rw [e, show s.ws.N = t :: ts from e0]
    simp only
    unfold xNumber
    by_cases h0 : l ≤ t ∧ t ≤ m
    · rw [if_pos h0, if_pos h0]
      exact .inr ⟨hb, rfl⟩
    · rw [if_neg h0, if_neg h0]
      exact .inl ⟨rfl, rfl⟩
theorem ag_pair : Ag xPair wPair := by
  intro s hb
  unfold xPair wPair
  rcases text_ways s with ⟨e0, e⟩ | ⟨t, ts, e0, e, h⟩
  · rw [e, show s.ws.T = [] from e0]
    exact .inl ⟨rfl, rfl⟩
  · rw [e, show s.ws.T = t :: ts from e0]
    simp only
    by_cases ht : t = []
    · rw [if_pos ht]
      refine .inl ⟨?_, rfl⟩
      show ((s.bad || decide _) || _) = true
      rw [decide_eq_true ht]; simp
    · rw [if_neg ht]
      unfold wText
      rw [show s.ws.T = t :: ts from e0]
      simp only
      by_cases h0 : (0 : UInt8) ∈ t
      · rw [if_pos h0]
        exact .inl ⟨by show ((s.bad || decide _) || decide _) = true; rw [decide_eq_true h0]; simp, rfl⟩
      · rw [if_neg h0]
        exact .inr ⟨by show ((s.bad || decide _) || decide _) = false; rw [decide_eq_false h0, decide_eq_false ht, hb]; rfl, rfl⟩
theorem item_form : wItem = fun s => ((wNumber 1 255 1 s).map (·.2)).bind wText := by
  funext s
  unfold wItem
  cases wNumber 1 255 1 s <;> rfl
theorem ag_item : Ag xItem wItem := by
  rw [item_form]
  exact ag_comp (f1 := xNumF 1 255 1) (f2 := xEndText) (ag_numf 1 255 1) ag_endtext step_endtext.bad
theorem ag_name : Ag xName wName := by
  intro s hb
  unfold xName wName
  rcases ag_endtext s hb with ⟨e1, e2⟩ | ⟨e1, e2⟩
  · rw [e2]; exact .inl ⟨e1, rfl⟩
  · rw [e2]; exact .inr ⟨e1, rfl⟩
theorem ag_value : Ag xValue wValue := by
  intro s hb
  unfold xValue wValue wNumber wNum
  rcases num_ways s with ⟨e0, e⟩ | ⟨n, ns, e0, e, h⟩
  · rw [e, show s.ws.N = [] from e0]
    refine .inl ⟨?_, rfl⟩
    simp only
    split
    · exact bad_raw (bad_number rfl)
    · exact bad_number rfl
  · rw [e, show s.ws.N = n :: ns from e0]
    simp only
    by_cases h0 : -1 ≤ n ∧ n ≤ 10000
    · rw [if_pos h0]
      simp only [Option.map_some, Option.bind_some]
      have e3 : xNumber n 4 (-1) 10000 { s with N := ns } = { s with N := ns, B := s.B ++ be 4 n } := by unfold xNumber; rw [if_pos h0]
      rw [e3]
      by_cases hn : 0 ≤ n
      · rw [if_pos hn, if_neg (by omega)]
        unfold xRaw wRaw
        rcases text_ways { s with N := ns, B := s.B ++ be 4 n } with ⟨g0, g⟩ | ⟨t, ts, g0, g, _⟩
        · rw [g]
          have g0' : s.ws.T = [] := g0
          simp only [g0']
          exact .inl ⟨rfl, rfl⟩
        · rw [g]
          have g0' : s.ws.T = t :: ts := g0
          simp only [g0']
          by_cases hl : (t.length : Int) = n
          · rw [if_pos hl]
            exact .inr ⟨by show (s.bad || decide _) = false; rw [hb, decide_eq_false (fun h => h hl)]; rfl, rfl⟩
          · rw [if_neg hl]
            exact .inl ⟨by show (s.bad || decide _) = true; rw [decide_eq_true hl]; simp, rfl⟩
      · rw [if_neg hn, if_pos (by omega)]
        exact .inr ⟨hb, rfl⟩
    · rw [if_neg h0]
      refine .inl ⟨?_, rfl⟩
      have e3 : xNumber n 4 (-1) 10000 { s with N := ns } = { s with N := ns, bad := true } := by unfold xNumber; rw [if_neg h0]
      rw [e3]
      split
      · exact bad_raw rfl
      · rfl
theorem ag_rep {f : XS → XS} {g : WS → Option WS} (h : Ag f g) : ∀ n, Ag (xRep n f) (rep n g)
  | 0 => fun s hb => .inr ⟨hb, rfl⟩
  | n + 1 => by
    intro s hb
    rw [xRep, if_neg (by rw [hb]; decide), rep]
    rcases h s hb with ⟨e1, e2⟩ | ⟨e1, e2⟩
    · rw [e2, rep_bad e1]; exact .inl ⟨e1, rfl⟩
    · rw [e2]; exact ag_rep h n (f s) e1
theorem rep_short {g : WS → Option WS} (hg : ∀ s s', g s = some s' → s'.T.length + 1 = s.T.length) : ∀ n s s', rep n g s = some s' → s'.T.length + n = s.T.length
  | 0, s, s', h => by obtain rfl := Option.some.inj h; rfl
  | n + 1, s, s', h => by
    rw [rep] at h
    cases hx : g s with
    | none => rw [hx] at h; cases h
    | some s1 =>
      rw [hx] at h
      have h1 := hg s s1 hx
      have h2 := rep_short hg n s1 s' h
      omega
theorem text_short {s s' : WS} (h : wText s = some s') : s'.T.length + 1 = s.T.length := by
  unfold wText at h
  cases hT : s.T with
  | nil => rw [hT] at h; cases h
  | cons t ts =>
    rw [hT] at h
    simp only at h
    split at h
    · cases h
    · obtain rfl := Option.some.inj h; rfl
theorem pair_short {s s' : WS} (h : wPair s = some s') : s'.T.length + 1 = s.T.length := by
  unfold wPair at h
  cases hT : s.T with
  | nil => rw [hT] at h; cases h
  | cons t ts =>
    rw [hT] at h
    simp only at h
    split at h
    · cases h
    · rw [← hT]; exact text_short h
theorem item_short {s s' : WS} (h : wItem s = some s') : s'.T.length + 1 = s.T.length := by
  unfold wItem at h
  cases hx : wNumber 1 255 1 s with
  | none => rw [hx] at h; cases h
  | some p =>
    obtain ⟨n, s1⟩ := p
    rw [hx] at h
    have := text_short h
    rw [(room_number hx (by decide)).2] at this
    exact this
/-- How many: the document's own count, and the program's, of a row of texts. -/
theorem count_ways (s : XS) (hT : s.T.length ≤ 10000) :
    ((xCount 10000 s).2.bad = true ∧ wNum 0 s.T.length s.ws = none) ∨
    (∃ n ns, s.N = n :: ns ∧ xCount 10000 s = (n, { s with N := ns }) ∧ 0 ≤ n ∧ wNum 0 s.T.length s.ws = if n ≤ s.T.length then some (n, ({ s with N := ns } : XS).ws) else none) := by
  unfold xCount wNum
  rcases num_ways s with ⟨e0, e⟩ | ⟨n, ns, e0, e, _⟩
  · rw [e, show s.ws.N = [] from e0]
    left
    split <;> exact ⟨rfl, rfl⟩
  · rw [e, show s.ws.N = n :: ns from e0]
    by_cases h : 0 ≤ n ∧ n ≤ 10000
    · right
      refine ⟨n, ns, e0, ?_, h.1, ?_⟩
      · exact if_pos h
      · simp only
        by_cases h2 : n ≤ s.T.length
        · rw [if_pos ⟨h.1, h2⟩, if_pos h2]; rfl
        · rw [if_neg (fun h => h2 h.2), if_neg h2]
    · left
      simp only
      rw [if_neg h, if_neg (fun h' => h ⟨h'.1, by omega⟩)]
      exact ⟨rfl, rfl⟩
theorem ag_pairs {s : XS} (hb : s.bad = false) (hT : s.T.length ≤ 10000) : Agree (xPairs s) (wPairs s.ws) := by
  unfold wPairs
  rcases count_ways s hT with ⟨e1, e2⟩ | ⟨n, ns, e0, e1, hn, e2⟩
  · rw [show wNum 0 (s.ws.T.length : Nat) s.ws = none from e2]
    refine .inl ⟨?_, rfl⟩
    show ((xRep _ xPair (xCount 10000 s).2).bad || _) = true
    rw [(step_rep step_pair _).bad _ e1]; rfl
  · rw [show wNum 0 (s.ws.T.length : Nat) s.ws = _ from e2]
    have hr := ag_rep ag_pair n.toNat { s with N := ns } hb
    unfold xPairs
    rw [e1]
    simp only
    by_cases h2 : n ≤ s.T.length
    · rw [if_pos h2]
      simp only [Option.bind_some]
      by_cases hp : n % 2 = 0
      · rw [if_pos hp]
        rcases hr with ⟨g1, g2⟩ | ⟨g1, g2⟩
        · rw [g2]
          exact .inl ⟨by show (_ || _) = true; rw [g1]; rfl, rfl⟩
        · rw [g2]
          exact .inr ⟨by show (_ || decide _) = false; rw [g1, decide_eq_false (by omega)]; rfl, rfl⟩
      · rw [if_neg hp]
        exact .inl ⟨by show (_ || decide _) = true; rw [decide_eq_true (by omega)]; simp, rfl⟩
    · rw [if_neg h2]
      refine .inl ⟨?_, rfl⟩
      rcases hr with ⟨g1, g2⟩ | ⟨g1, g2⟩
      · show (_ || _) = true
        rw [g1]; rfl
      · have := rep_short (fun s s' h => pair_short h) _ _ _ g2
        have h3 : s.T.length = (XS.ws { s with N := ns }).T.length := rfl
        omega
theorem ag_fields {s : XS} (hb : s.bad = false) (hT : s.T.length ≤ 10000) : Agree (xFields s) (wFields s.ws) := by
  unfold wFields
  rcases count_ways s hT with ⟨e1, e2⟩ | ⟨n, ns, e0, e1, hn, e2⟩
  · rw [show wNum 0 (s.ws.T.length : Nat) s.ws = none from e2]
    exact .inl ⟨(step_rep step_item _).bad _ e1, rfl⟩
  · rw [show wNum 0 (s.ws.T.length : Nat) s.ws = _ from e2]
    have hr := ag_rep ag_item n.toNat { s with N := ns } hb
    unfold xFields
    rw [e1]
    simp only
    by_cases h2 : n ≤ s.T.length
    · rw [if_pos h2]
      simp only [Option.bind_some]
      rcases hr with ⟨g1, g2⟩ | ⟨g1, g2⟩
      · rw [g2]
        exact .inl ⟨g1, rfl⟩
      · rw [g2]
        exact .inr ⟨g1, rfl⟩
    · rw [if_neg h2]
      refine .inl ⟨?_, rfl⟩
      rcases hr with ⟨g1, g2⟩ | ⟨g1, g2⟩
      · exact g1
      · have := rep_short (fun s s' h => item_short h) _ _ _ g2
        have h3 : s.T.length = (XS.ws { s with N := ns }).T.length := rfl
        omega
theorem ag_row {c : UInt8} {f : WS → Option WS} (hf : Ag (xOne c) f) : Ag (xRow c) (wCounted f) := by
  intro s hb
  unfold xRow wCounted wNumber wNum xCount
  rcases num_ways s with ⟨e0, e⟩ | ⟨n, ns, e0, e, _⟩
  · rw [e, show s.ws.N = [] from e0]
    refine .inl ⟨?_, rfl⟩
    exact (step_rep (step_one c) _).bad _ (bad_number (by split <;> rfl))
  · rw [e, show s.ws.N = n :: ns from e0]
    by_cases h : 0 ≤ n ∧ n ≤ 100
    · simp only
      rw [if_pos h, if_pos h]
      simp only [Option.map_some, Option.bind_some]
      have e3 : xNumber n 2 0 100 { s with N := ns } = { s with N := ns, B := s.B ++ be 2 n } := by unfold xNumber; rw [if_pos h]
      rw [e3]
      exact ag_rep hf n.toNat _ hb
    · simp only
      rw [if_neg h, if_neg h]
      refine .inl ⟨?_, rfl⟩
      exact (step_rep (step_one c) _).bad _ (bad_number rfl)
theorem ag_field {c : UInt8} (hc : letter c = true) {s : XS} (hb : s.bad = false) (hT : s.T.length ≤ 10000) : Agree (xField c s) (wField c s.ws) := by
  have hm : c = 115 ∨ c = 98 ∨ c = 105 ∨ c = 112 ∨ c = 102 ∨ c = 99 ∨ c = 108 ∨ c = 118 ∨ c = 109 := by
    simpa [letter] using hc
  rcases hm with rfl | rfl | rfl | rfl | rfl | rfl | rfl | rfl | rfl
  · exact ag_endtext s hb
  · exact ag_numf 0 255 1 s hb
  · exact ag_numf _ _ 4 s hb
  · exact ag_pairs hb hT
  · exact ag_fields hb hT
  · exact ag_row (c := 99) (f := wShort) (fun s hb => ag_numf _ _ 2 s hb) s hb
  · exact ag_row (c := 108) (f := wLong) (fun s hb => ag_numf _ _ 4 s hb) s hb
  · exact ag_row (c := 118) (f := wValue) (fun s hb => ag_value s hb) s hb
  · exact ag_row (c := 109) (f := wName) (fun s hb => ag_name s hb) s hb
theorem texts_room {s : XS} : s.T.length ≤ xr s := by
  rw [xr_eq]
  have : ∀ T : List Bs, T.length ≤ (T.map fun t => t.length + 19).sum := by
    intro T
    induction T with
    | nil => exact Nat.le_refl _
    | cons t T ih => simp only [List.map_cons, List.sum_cons, List.length_cons]; omega
  have := this s.T
  omega
end Go.Proofs.YtmofnkinclckoaaGreatDoor

namespace Go.Proofs.YtmofnkinclckoaaGreatDoor
open Go.RowKit Go.Lib Go.WideShapes

/-- A writer that was made behind w0. -/
structure RAt (w0 w : World) (s : XS) (tv nv : Value) : Prop where
  below : Below w0.heap.size w0 w
  lt : w0.heap.size < w.heap.size
  c0 : w.cell? ⟨w0.heap.size, 0, none⟩ = some tv
  c1 : w.cell? ⟨w0.heap.size, 1, none⟩ = some nv
  c2 : w.cell? ⟨w0.heap.size, 2, none⟩ = some (.string ⟨s.B.toArray⟩)
  c3 : w.cell? ⟨w0.heap.size, 3, none⟩ = some (.bool s.bad)
  f0 : w.frozen? ⟨w0.heap.size, 0, none⟩ = false
  f1 : w.frozen? ⟨w0.heap.size, 1, none⟩ = false
  f2 : w.frozen? ⟨w0.heap.size, 2, none⟩ = false
  f3 : w.frozen? ⟨w0.heap.size, 3, none⟩ = false
  texts : TextsIn w0 tv s.T
  nums : NumsIn w0 nv s.N
def IsR (w0 w : World) (s : XS) : Prop := ∃ tv nv, RAt w0 w s tv nv

theorem RAt.put0 {w0 w : World} {s : XS} {tv nv : Value} (h : RAt w0 w s tv nv) {T : List Bs} {tv' : Value} (hT : TextsIn w0 tv' T) : RAt w0 (w.setCell ⟨w0.heap.size, 0, none⟩ tv') { s with T := T } tv' nv := by
  have n1 : (⟨w0.heap.size, 0, none⟩ : Addr) ≠ ⟨w0.heap.size, 1, none⟩ := by intro e; injection e with _ e; cases e
  have n2 : (⟨w0.heap.size, 0, none⟩ : Addr) ≠ ⟨w0.heap.size, 2, none⟩ := by intro e; injection e with _ e; cases e
  have n3 : (⟨w0.heap.size, 0, none⟩ : Addr) ≠ ⟨w0.heap.size, 3, none⟩ := by intro e; injection e with _ e; cases e
  exact ⟨h.below.setCell (Nat.le_refl _) _, by rw [World.size_setCell]; exact h.lt, World.cell?_setCell_same _ _ _ h.c0, (World.cell?_setCell_other _ _ _ _ n1).trans h.c1, (World.cell?_setCell_other _ _ _ _ n2).trans h.c2, (World.cell?_setCell_other _ _ _ _ n3).trans h.c3, by rw [World.frozen?_setCell]; exact h.f0, by rw [World.frozen?_setCell]; exact h.f1, by rw [World.frozen?_setCell]; exact h.f2, by rw [World.frozen?_setCell]; exact h.f3, hT, h.nums⟩
theorem RAt.put1 {w0 w : World} {s : XS} {tv nv : Value} (h : RAt w0 w s tv nv) {N : List Int} {nv' : Value} (hN : NumsIn w0 nv' N) : RAt w0 (w.setCell ⟨w0.heap.size, 1, none⟩ nv') { s with N := N } tv nv' := by
  have n1 : (⟨w0.heap.size, 1, none⟩ : Addr) ≠ ⟨w0.heap.size, 0, none⟩ := by intro e; injection e with _ e; cases e
  have n2 : (⟨w0.heap.size, 1, none⟩ : Addr) ≠ ⟨w0.heap.size, 2, none⟩ := by intro e; injection e with _ e; cases e
  have n3 : (⟨w0.heap.size, 1, none⟩ : Addr) ≠ ⟨w0.heap.size, 3, none⟩ := by intro e; injection e with _ e; cases e
  exact ⟨h.below.setCell (Nat.le_refl _) _, by rw [World.size_setCell]; exact h.lt, (World.cell?_setCell_other _ _ _ _ n1).trans h.c0, World.cell?_setCell_same _ _ _ h.c1, (World.cell?_setCell_other _ _ _ _ n2).trans h.c2, (World.cell?_setCell_other _ _ _ _ n3).trans h.c3, by rw [World.frozen?_setCell]; exact h.f0, by rw [World.frozen?_setCell]; exact h.f1, by rw [World.frozen?_setCell]; exact h.f2, by rw [World.frozen?_setCell]; exact h.f3, h.texts, hN⟩
theorem RAt.put2 {w0 w : World} {s : XS} {tv nv : Value} (h : RAt w0 w s tv nv) (B : Bs) : RAt w0 (w.setCell ⟨w0.heap.size, 2, none⟩ (.string ⟨B.toArray⟩)) { s with B := B } tv nv := by
  have n1 : (⟨w0.heap.size, 2, none⟩ : Addr) ≠ ⟨w0.heap.size, 0, none⟩ := by intro e; injection e with _ e; cases e
  have n2 : (⟨w0.heap.size, 2, none⟩ : Addr) ≠ ⟨w0.heap.size, 1, none⟩ := by intro e; injection e with _ e; cases e
  have n3 : (⟨w0.heap.size, 2, none⟩ : Addr) ≠ ⟨w0.heap.size, 3, none⟩ := by intro e; injection e with _ e; cases e
  exact ⟨h.below.setCell (Nat.le_refl _) _, by rw [World.size_setCell]; exact h.lt, (World.cell?_setCell_other _ _ _ _ n1).trans h.c0, (World.cell?_setCell_other _ _ _ _ n2).trans h.c1, World.cell?_setCell_same _ _ _ h.c2, (World.cell?_setCell_other _ _ _ _ n3).trans h.c3, by rw [World.frozen?_setCell]; exact h.f0, by rw [World.frozen?_setCell]; exact h.f1, by rw [World.frozen?_setCell]; exact h.f2, by rw [World.frozen?_setCell]; exact h.f3, h.texts, h.nums⟩
theorem RAt.put3 {w0 w : World} {s : XS} {tv nv : Value} (h : RAt w0 w s tv nv) (b : Bool) : RAt w0 (w.setCell ⟨w0.heap.size, 3, none⟩ (.bool b)) { s with bad := b } tv nv := by
  have n1 : (⟨w0.heap.size, 3, none⟩ : Addr) ≠ ⟨w0.heap.size, 0, none⟩ := by intro e; injection e with _ e; cases e
  have n2 : (⟨w0.heap.size, 3, none⟩ : Addr) ≠ ⟨w0.heap.size, 1, none⟩ := by intro e; injection e with _ e; cases e
  have n3 : (⟨w0.heap.size, 3, none⟩ : Addr) ≠ ⟨w0.heap.size, 2, none⟩ := by intro e; injection e with _ e; cases e
  exact ⟨h.below.setCell (Nat.le_refl _) _, by rw [World.size_setCell]; exact h.lt, (World.cell?_setCell_other _ _ _ _ n1).trans h.c0, (World.cell?_setCell_other _ _ _ _ n2).trans h.c1, (World.cell?_setCell_other _ _ _ _ n3).trans h.c2, World.cell?_setCell_same _ _ _ h.c3, by rw [World.frozen?_setCell]; exact h.f0, by rw [World.frozen?_setCell]; exact h.f1, by rw [World.frozen?_setCell]; exact h.f2, by rw [World.frozen?_setCell]; exact h.f3, h.texts, h.nums⟩
/-- A world that left all up to the writer as it was. -/
theorem RAt.grow {w0 w w' : World} {s : XS} {tv nv : Value} (h : RAt w0 w s tv nv) (hb : Below (w0.heap.size + 1) w w') : RAt w0 w' s tv nv := by
  have k : ∀ i, w'.cell? ⟨w0.heap.size, i, none⟩ = w.cell? ⟨w0.heap.size, i, none⟩ := fun i => hb.cell (p := ⟨w0.heap.size, i, none⟩) (Nat.lt_succ_self _)
  have f : ∀ i, w'.frozen? ⟨w0.heap.size, i, none⟩ = w.frozen? ⟨w0.heap.size, i, none⟩ := fun i => hb.frozen (p := ⟨w0.heap.size, i, none⟩) (Nat.lt_succ_self _)
  exact ⟨h.below.trans (hb.mono (Nat.le_succ _)), Nat.lt_of_lt_of_le h.lt hb.size, (k 0).trans h.c0, (k 1).trans h.c1, (k 2).trans h.c2, (k 3).trans h.c3, (f 0).trans h.f0, (f 1).trans h.f1, (f 2).trans h.f2, (f 3).trans h.f3, h.texts, h.nums⟩

/-- What an operation of the document's writer leaves. -/
def ROut (w0 : World) (s : XS) (e : Ending) (w' : World) : Prop := e = .returned (.tuple #[]) ∧ IsR w0 w' s

set_option maxRecDepth 100000 in
set_option maxHeartbeats 4000000 in
theorem rnum_any (w0 w : World) (s : XS) (h : IsR w0 w s) :
    Calls Tryz.prog 81 #[.pointer (some ⟨w0.heap.size, 0, none⟩)] w fun e w' => e = .returned (.int .i64 (xNum s).1) ∧ IsR w0 w' (xNum s).2 := by
  obtain ⟨tv, nv, hW⟩ := h
  obtain ⟨a, n, c, rfl, hl, hn, hc, _⟩ := hW.nums
  have c1 := hW.c1
  have f1 := hW.f1
  have f3 := hW.f3
  have c3 := hW.c3
  have HW := Lib.hid hW
  obtain ⟨T, N, B, b⟩ := s
  clear hW
  cases N with
  | nil =>
    obtain rfl : 0 = n := hl
    have HP := Lib.hid (HW.out.put3 true)
    go_enter Tryz.func81, Tryz.ntmps81
    go_wp2_with fail
    go_ret
    exact ⟨rfl, _, _, HP.out⟩
  | cons t ts =>
    obtain ⟨g, off, rfl, hg, hcell, h1, _, _, hts, hA, hB⟩ := HW.out.nums.tail
    have d0 := (HW.out.below.cell (p := ⟨g, off, none⟩) hg).trans hcell
    have h1' : (1 : Int) ≤ n := by omega
    have hn' : (n : Int) ≤ c := by omega
    have h0' : 0 < n := by omega
    have hne : ((n : Int) == 0) = false := by rw [beq_eq_false_iff_ne]; omega
    have HA := Lib.hid hA; have HB := Lib.hid hB
    clear hl hA hB hcell
    by_cases hc1 : c = 1
    · subst hc1
      obtain rfl : n = 1 := by omega
      have HP := Lib.hid (HW.out.put1 (HB.out rfl (some ⟨g, off, none⟩)))
      go_enter Tryz.func81, Tryz.ntmps81
      go_wp2_with fail
      go_ret
      exact ⟨rfl, _, _, HP.out⟩
    · have hc2 : (2 : Int) ≤ c := by omega
      have HP := Lib.hid (HW.out.put1 (HA.out (by omega)))
      go_enter Tryz.func81, Tryz.ntmps81
      go_wp2_with fail
      go_ret
      exact ⟨rfl, _, _, HP.out⟩

set_option maxRecDepth 100000 in
set_option maxHeartbeats 4000000 in
theorem rtext_any (w0 w : World) (s : XS) (h : IsR w0 w s) :
    Calls Tryz.prog 79 #[.pointer (some ⟨w0.heap.size, 0, none⟩)] w fun e w' => e = .returned (.string ⟨(xText s).1.toArray⟩) ∧ IsR w0 w' (xText s).2 := by
  obtain ⟨tv, nv, hW⟩ := h
  obtain ⟨a, n, c, rfl, hl, hn, hc, _⟩ := hW.texts
  have c0 := hW.c0
  have f0 := hW.f0
  have f3 := hW.f3
  have c3 := hW.c3
  have HW := Lib.hid hW
  obtain ⟨T, N, B, b⟩ := s
  clear hW
  cases T with
  | nil =>
    obtain rfl : 0 = n := hl
    have HP := Lib.hid (HW.out.put3 true)
    go_enter Tryz.func79, Tryz.ntmps79
    go_wp2_with fail
    go_ret
    exact ⟨rfl, _, _, HP.out⟩
  | cons t ts =>
    obtain ⟨g, off, rfl, hg, hcell, h1, _, _, hts, hA, hB⟩ := HW.out.texts.tail
    have d0 := (HW.out.below.cell (p := ⟨g, off, none⟩) hg).trans hcell
    have h1' : (1 : Int) ≤ n := by omega
    have hn' : (n : Int) ≤ c := by omega
    have h0' : 0 < n := by omega
    have hne : ((n : Int) == 0) = false := by rw [beq_eq_false_iff_ne]; omega
    have HA := Lib.hid hA; have HB := Lib.hid hB
    clear hl hA hB hcell
    by_cases hc1 : c = 1
    · subst hc1
      obtain rfl : n = 1 := by omega
      have HP := Lib.hid (HW.out.put0 (HB.out rfl (some ⟨g, off, none⟩)))
      go_enter Tryz.func79, Tryz.ntmps79
      go_wp2_with fail
      go_ret
      exact ⟨rfl, _, _, HP.out⟩
    · have hc2 : (2 : Int) ≤ c := by omega
      have HP := Lib.hid (HW.out.put0 (HA.out (by omega)))
      go_enter Tryz.func79, Tryz.ntmps79
      go_wp2_with fail
      go_ret
      exact ⟨rfl, _, _, HP.out⟩

set_option maxRecDepth 100000 in
set_option maxHeartbeats 4000000 in
theorem rzero_any (w : World) (t : ByteArray) (ht : t.size ≤ 1000000) :
    Calls Tryz.prog 95 #[.string t] w fun e w' => e = .returned (.bool (decide ((0 : UInt8) ∈ bytes t))) ∧ w = w' := by
  go_enter Tryz.func95, Tryz.ntmps95
  go_wp2_with fail
  go_loopw [3, 3] (fun i _ wx => ∃ j : Nat, j ≤ t.size ∧ i = .int .i64 j ∧ (0 : UInt8) ∉ (bytes t).take j ∧ wx = w) (fun i _ _ => t.size - (RowKit.intOf i).toNat)
  case atStart => exact ⟨0, Nat.zero_le _, rfl, by simp, rfl⟩
  case round =>
    obtain ⟨j, hj, rfl, hno, hwr⟩ := hrel
    subst hwr
    have HNO := Lib.hid hno
    clear hno
    by_cases hlt : j < t.size
    · have hlt' : (j : Int) < t.size := by omega
      have hjl : j < (bytes t).length := by rw [blen]; exact hlt
      have HS := Lib.hid (List.take_succ_eq_append_getElem hjl)
      have hg : (bytes t)[j] = t[j] := rfl
      rw [hg] at HS
      clear hg
      by_cases h0 : t[j] = 0
      · have hb0 : ((t[j].toNat : Int) == 0) = true := by rw [h0]; rfl
        have HR := Lib.hid (show decide ((0 : UInt8) ∈ bytes t) = true from decide_eq_true (by
          have : (0 : UInt8) ∈ (bytes t).take (j + 1) := by rw [HS.out, h0]; simp
          exact List.mem_of_mem_take this))
        clear h0
        go_wp2_with fail
        go_ret
        exact ⟨by rw [HR.out]; rfl, by trivial⟩
      · have hb0 : ((t[j].toNat : Int) == 0) = false := by
          rw [beq_eq_false_iff_ne]; intro e
          exact h0 (UInt8.toNat_inj.mp (by have : t[j].toNat = 0 := by omega
                                           exact this))
        have HN := Lib.hid (show (0 : UInt8) ∉ (bytes t).take (j + 1) from by
          rw [HS.out, List.mem_append, List.mem_singleton]
          rintro (h | h)
          · exact HNO.out h
          · exact h0 h.symm)
        clear h0
        go_wp2_with fail
        go_roundw
        case measure => first | omega | (simp [RowKit.intOf]; omega)
        case rel => exact ⟨j + 1, by omega, by go_num, HN.out, by trivial⟩
    · obtain rfl : j = t.size := by omega
      have HR := Lib.hid (show decide ((0 : UInt8) ∈ bytes t) = false from decide_eq_false (by
        have := HNO.out
        rw [← blen, List.take_length] at this
        exact this))
      clear hlt
      go_wp2_with fail
      go_ret
      exact ⟨by rw [HR.out]; rfl, by trivial⟩
end Go.Proofs.YtmofnkinclckoaaGreatDoor
