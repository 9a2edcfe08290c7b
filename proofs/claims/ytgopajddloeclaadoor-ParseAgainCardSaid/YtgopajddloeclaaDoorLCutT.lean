/- A token, with less behind it, is the token that it was; so are the tokens of a part of a text: mathematics. -/
import Derived.Test.YtgopajddloeclaaDoorLCutM
namespace Go.Proofs.YtgopajddloeclaaDoor

theorem len_app {a b : Bs} (h : b.length + a.length = b.length) : a = [] := List.length_eq_zero_iff.1 (by omega)

/-- The text behind is no longer than the text. -/
theorem qt_cut (mark : UInt8) (esc : Bool) (z : Bs) : ∀ (n : Nat) (l t r : Bs), l.length ≤ n → qt mark esc (l ++ z) = some (t, r ++ z) → qt mark esc l = some (t, r) := by
  intro n
  have no : ∀ (l t r : Bs), l.length < r.length → qt mark esc l = some (t, r) → False := by
    intro l t r hl h
    obtain ⟨d, hd, hdl⟩ := qt_sub mark esc _ l t r (Nat.le_refl _) h
    have := congrArg List.length hd
    rw [List.length_drop] at this
    omega
  have base : ∀ t r, qt mark esc z = some (t, r ++ z) → False := by
    intro t r h
    cases z with
    | nil => cases h
    | cons x z =>
      obtain ⟨d, hd, hdl⟩ := qt_sub mark esc _ _ t _ (Nat.le_refl _) h
      cases d with
      | succ d =>
        have := congrArg List.length hd
        rw [List.length_drop, List.length_append, List.length_cons] at this
        omega
      | zero =>
        have hr : r = [] := by
          have := congrArg List.length hd
          rw [List.length_drop, List.length_append] at this
          exact List.length_eq_zero_iff.1 (by omega)
        subst hr
        have mp : ∀ (q : Bs) (c : UInt8), q.length < (x :: z).length → (qt mark esc q).map (fun p => (c :: p.1, p.2)) = some (t, [] ++ x :: z) → False := by
          intro q c hq hm
          cases hr : qt mark esc q with
          | none => rw [hr] at hm; cases hm
          | some p =>
            rw [hr] at hm
            simp only [Option.map_some, Option.some.injEq, Prod.mk.injEq] at hm
            exact no q p.1 p.2 (by rw [hm.2]; exact hq) hr
        cases z with
        | nil =>
          rw [qt_one] at h
          split at h
          · cases h
          split at h
          · cases h
          · cases h
        | cons y z =>
          rw [qt_two] at h
          split at h
          · exact mp z _ (by simp only [List.length_cons]; omega) h
          split at h
          · split at h
            · exact mp z _ (by simp only [List.length_cons]; omega) h
            · have := congrArg (fun p : Bs × Bs => p.2.length) (Option.some.inj h)
              simp at this
          · exact mp (y :: z) _ (by simp) h
  induction n with
  | zero =>
    intro l t r hl h
    obtain rfl := List.length_eq_zero_iff.1 (Nat.le_zero.1 hl)
    exact absurd h (fun e => base t r e)
  | succ n ih =>
    intro l t r hl h
    have mp : ∀ (q : Bs) (c : UInt8), q.length ≤ n → (qt mark esc (q ++ z)).map (fun p => (c :: p.1, p.2)) = some (t, r ++ z) → (qt mark esc q).map (fun p => (c :: p.1, p.2)) = some (t, r) := by
      intro q c hq hm
      cases hr : qt mark esc (q ++ z) with
      | none => rw [hr] at hm; cases hm
      | some p =>
        rw [hr] at hm
        obtain ⟨p1, p2⟩ := p
        simp only [Option.map_some, Option.some.injEq, Prod.mk.injEq] at hm
        obtain ⟨rfl, rfl⟩ := hm
        rw [ih q p1 r hq hr]; rfl
    match l, hl, h with
    | [], _, h => exact absurd h (fun e => base t r e)
    | [x], hl, h =>
      cases z with
      | nil =>
        rw [List.append_nil, List.append_nil] at h
        exact h
      | cons y z =>
        have h : qt mark esc (x :: y :: z) = _ := h
        rw [qt_two] at h
        rw [qt_one]
        split at h
        · exfalso
          cases hr : qt mark esc z with
          | none => rw [hr] at h; cases h
          | some p =>
            rw [hr] at h
            simp only [Option.map_some, Option.some.injEq, Prod.mk.injEq] at h
            exact no z p.1 p.2 (by rw [h.2]; simp; omega) hr
        · rename_i h1
          rw [if_neg h1]
          split at h
          · rename_i h2
            rw [if_pos h2]
            split at h
            · exfalso
              cases hr : qt mark esc z with
              | none => rw [hr] at h; cases h
              | some p =>
                rw [hr] at h
                simp only [Option.map_some, Option.some.injEq, Prod.mk.injEq] at h
                exact no z p.1 p.2 (by rw [h.2]; simp; omega) hr
            · simp only [Option.some.injEq, Prod.mk.injEq] at h
              obtain ⟨rfl, h9⟩ := h
              have : r = [] := by
                have := congrArg List.length h9
                rw [List.length_append] at this
                exact List.length_eq_zero_iff.1 (by omega)
              rw [this]
          · exfalso
            cases hr : qt mark esc (y :: z) with
            | none => rw [hr] at h; cases h
            | some p =>
              rw [hr] at h
              simp only [Option.map_some, Option.some.injEq, Prod.mk.injEq] at h
              refine base p.1 r ?_
              rw [hr, ← h.2]
    | x :: y :: q, hl, h =>
      simp only [List.length_cons] at hl
      have h : qt mark esc (x :: y :: (q ++ z)) = _ := h
      rw [qt_two] at h ⊢
      by_cases h1 : esc = true ∧ x = 92
      · rw [if_pos h1] at h ⊢
        exact mp q _ (by omega) h
      · rw [if_neg h1] at h ⊢
        by_cases h2 : x = mark
        · rw [if_pos h2] at h ⊢
          by_cases h3 : y = mark
          · rw [if_pos h3] at h ⊢
            exact mp q _ (by omega) h
          · rw [if_neg h3] at h ⊢
            simp only [Option.some.injEq, Prod.mk.injEq] at h ⊢
            refine ⟨h.1, ?_⟩
            have h := h.2
            rw [← List.cons_append] at h
            exact List.append_cancel_right h
        · rw [if_neg h2] at h ⊢
          exact mp (y :: q) _ (by simp; omega) h

theorem headD_cut (l z : Bs) (P : UInt8 → Bool) (h0 : P 0 = false) (h : P (l.headD 0) = true) : P ((l ++ z).headD 0) = true := by
  cases l with
  | nil => rw [show ([] : Bs).headD 0 = 0 from rfl, h0] at h; cases h
  | cons => exact h

/-- A number that ends in a text is as long with what is behind. -/
theorem nl_cut (z : Bs) : ∀ (n : Nat) (l : Bs), l.length ≤ n → nl (l ++ z) ≤ l.length → nl l = nl (l ++ z) := by
  intro n
  induction n with
  | zero =>
    intro l hl h
    obtain rfl := List.length_eq_zero_iff.1 (Nat.le_zero.1 hl)
    exact (Nat.le_zero.1 h).symm
  | succ n ih =>
    intro l hl h
    match l with
    | [] => exact (Nat.le_zero.1 h).symm
    | a :: r =>
      rw [List.length_cons] at hl h
      rw [List.cons_append] at h ⊢
      by_cases ha : dg a = true ∨ a = 46
      · rw [nl_on ha] at h ⊢
        rw [nl_on ha, ih r (by omega) (by omega)]
      · rw [nl_else ha] at h ⊢
        rw [nl_else ha]
        by_cases he : a = 101 ∨ a = 69
        · rw [if_pos he] at h ⊢
          rw [if_pos he]
          cases r with
          | nil =>
            have e : (if ([] : Bs).headD 0 = 43 ∨ ([] : Bs).headD 0 = 45 then if dg (([] : Bs).tail.headD 0) = true then 2 + nl ([] : Bs).tail else 0 else if dg (([] : Bs).headD 0) = true then 1 + nl [] else 0) = 0 := rfl
            rw [e]
            simp only [List.nil_append] at h ⊢
            split at h
            · rename_i h1
              rw [if_pos h1]
              split at h
              · simp at h; omega
              · rename_i h2; rw [if_neg h2]
            · rename_i h1
              rw [if_neg h1]
              split at h
              · rename_i h2
                exfalso
                have : 1 ≤ nl z := by
                  cases z with
                  | nil => exact absurd h2 (by decide)
                  | cons x z => rw [nl_on (a := x) (.inl h2)]; omega
                simp at h; omega
              · rename_i h2; rw [if_neg h2]
          | cons b r =>
            rw [List.length_cons] at hl h
            rw [List.cons_append] at h ⊢
            have h : (if b = 43 ∨ b = 45 then (if dg ((r ++ z).headD 0) = true then 2 + nl (r ++ z) else 0) else (if dg b = true then 1 + nl (b :: (r ++ z)) else 0)) ≤ r.length + 1 + 1 := h
            show (if b = 43 ∨ b = 45 then (if dg (r.headD 0) = true then 2 + nl r else 0) else (if dg b = true then 1 + nl (b :: r) else 0)) = (if b = 43 ∨ b = 45 then (if dg ((r ++ z).headD 0) = true then 2 + nl (r ++ z) else 0) else (if dg b = true then 1 + nl (b :: (r ++ z)) else 0))
            by_cases hb : b = 43 ∨ b = 45
            · rw [if_pos hb] at h ⊢
              rw [if_pos hb]
              by_cases hc : dg ((r ++ z).headD 0) = true
              · rw [if_pos hc] at h ⊢
                have hr : r ≠ [] := by
                  intro e
                  subst e
                  have : 1 ≤ nl ([] ++ z) := by
                    cases z with
                    | nil => exact absurd hc (by decide)
                    | cons x z => rw [List.nil_append, nl_on (a := x) (.inl hc)]; omega
                  simp at h this; omega
                have hc' : dg (r.headD 0) = true := by
                  cases r with
                  | nil => exact absurd rfl hr
                  | cons => exact hc
                rw [if_pos hc', ih r (by omega) (by omega)]
              · rw [if_neg hc] at h ⊢
                rw [if_neg (fun e => hc (headD_cut r z dg (by decide) e))]
            · rw [if_neg hb] at h ⊢
              rw [if_neg hb]
              by_cases hc : dg b = true
              · rw [if_pos hc] at h ⊢
                rw [if_pos hc]
                have := ih (b :: r) (by simp; omega) (by rw [List.cons_append, List.length_cons]; omega)
                rw [this]; rfl
              · rw [if_neg hc, if_neg hc]
        · rw [if_neg he, if_neg he]

theorem prefix_cut (t l z : Bs) (h : t.isPrefixOf l = true) : t.isPrefixOf (l ++ z) = true := by
  rw [List.isPrefixOf_iff_prefix] at h ⊢
  exact h.trans (List.prefix_append l z)

theorem find_cut (t z : Bs) (h0 : 0 < t.length) : ∀ (l : Bs) (n : Nat), find t (l ++ z) = some n → n + t.length ≤ l.length → find t l = some n := by
  intro l
  induction l with
  | nil => intro n _ h; simp at h; rw [h.2] at h0; exact absurd h0 (by decide)
  | cons a r ih =>
    intro n h hn
    rw [List.cons_append, find] at h
    rw [find]
    by_cases hp : t.isPrefixOf (a :: (r ++ z)) = true
    · rw [if_pos hp] at h
      cases h
      rw [← List.cons_append, prefix_join t _ z (by omega)] at hp
      rw [if_pos hp]
    · rw [if_neg hp] at h
      rw [if_neg (fun e => hp (prefix_cut t (a :: r) z e))]
      cases hr : find t (r ++ z) with
      | none => rw [hr] at h; cases h
      | some k =>
        rw [hr] at h
        obtain rfl : k + 1 = n := Option.some.inj h
        rw [ih k hr (by rw [List.length_cons] at hn; omega)]; rfl

theorem takeWhile_le {p : UInt8 → Bool} (l z : Bs) (h : ((l ++ z).takeWhile p).length ≤ l.length) : (l ++ z).takeWhile p = l.takeWhile p := by
  induction l with
  | nil => rw [List.length_nil] at h; rw [List.length_eq_zero_iff.1 (Nat.le_zero.1 h)]; rfl
  | cons a l ih =>
    rw [List.cons_append] at h ⊢
    by_cases ha : p a = true
    · rw [List.takeWhile_cons_of_pos ha] at h ⊢
      rw [List.takeWhile_cons_of_pos ha, ih (by simpa using h)]
    · rw [List.takeWhile_cons_of_neg ha, List.takeWhile_cons_of_neg ha]
theorem takeWhile_sub {p : UInt8 → Bool} (l z : Bs) : (l.takeWhile p).length < l.length → (l ++ z).takeWhile p = l.takeWhile p := by
  induction l with
  | nil => intro h; cases h
  | cons a l ih =>
    intro h
    rw [List.cons_append]
    by_cases ha : p a = true
    · rw [List.takeWhile_cons_of_pos ha] at h
      rw [List.takeWhile_cons_of_pos ha, List.takeWhile_cons_of_pos ha, ih (by simpa using h)]
    · rw [List.takeWhile_cons_of_neg ha, List.takeWhile_cons_of_neg ha]
/-- A tag that stands in a text stands there with more behind. -/
theorem tag_more {l t : Bs} (z : Bs) (h : tagOf l = some t) : tagOf (l ++ z) = some t := by
  cases l with
  | nil => cases h
  | cons a r =>
    rw [tagOf] at h
    rw [List.cons_append, tagOf]
    split at h
    · rename_i hc
      cases h
      have hb : tagBody (r ++ z) = tagBody r := by
        cases r with
        | nil => have := hc.2; rw [List.drop_nil] at this; cases this
        | cons b r =>
          have h2 := hc.2
          rw [tagBody] at h2
          rw [List.cons_append, tagBody, tagBody]
          split
          · rename_i hb
            rw [if_pos hb] at h2
            rw [takeWhile_sub r z]
            refine Nat.lt_of_not_le fun hge => ?_
            have hle := (List.takeWhile_prefix (l := r) (fun c => bw c || dg c)).length_le
            rw [List.drop_eq_nil_of_le (by simp; omega)] at h2
            cases h2
          · rfl
      have hd : ((r ++ z).drop (tagBody r).length).head? = some 36 := by
        rw [List.drop_append_of_le_length (tagBody_le r)]
        cases he : r.drop (tagBody r).length with
        | nil => have := hc.2; rw [he] at this; cases this
        | cons x y => have := hc.2; rw [he] at this; exact this
      rw [hb, if_pos ⟨hc.1, hd⟩]
    · cases h
theorem tag_len {l t : Bs} (h : tagOf l = some t) : ∃ y, l = t ++ y := by
  obtain ⟨h1, h2, _, _⟩ := tag_prefix h
  exact ⟨l.drop t.length, by conv => rhs; rw [h1]
                             rw [List.length_take, Nat.min_eq_left h2, List.take_append_drop]⟩
theorem tag_cut {l z t : Bs} (h : tagOf (l ++ z) = some t) (hl : t.length ≤ l.length) : tagOf l = some t := by
  cases l with
  | nil =>
    obtain ⟨_, _, _, h4⟩ := tag_prefix h
    simp at hl; subst hl; cases h4
  | cons a r =>
    rw [List.cons_append, tagOf] at h
    rw [tagOf]
    split at h
    · rename_i hc
      cases h
      simp only [List.length_cons, List.length_append, List.length_nil] at hl
      have hb : tagBody r = tagBody (r ++ z) := by
        cases r with
        | nil => simp at hl
        | cons b r =>
          rw [List.cons_append] at hl ⊢
          rw [tagBody, tagBody]
          rw [tagBody] at hl
          split
          · rename_i hb
            rw [if_pos hb] at hl
            rw [takeWhile_le r z (by simp only [List.length_cons] at hl; omega)]
          · rfl
      have hd : (r.drop (tagBody r).length).head? = some 36 := by
        have h2 := hc.2
        rw [← hb, List.drop_append_of_le_length (tagBody_le r)] at h2
        have : (tagBody r).length < r.length := by rw [hb]; omega
        cases he : r.drop (tagBody r).length with
        | nil =>
          have := congrArg List.length he
          rw [List.length_drop, List.length_nil] at this
          omega
        | cons x y => rw [he] at h2; exact h2
      rw [if_pos ⟨hc.1, hd⟩, hb]
    · cases h

theorem token_cut {l z : Bs} {k : UInt8} {t r : Bs} (h : token (l ++ z) = some (k, t, r ++ z)) : token l = some (k, t, r) := by
  cases l with
  | nil =>
    obtain ⟨d, h1, h2, h3⟩ := token_sub h
    have := congrArg List.length h2
    rw [List.nil_append] at h3 this
    rw [List.length_drop, List.length_append] at this
    omega
  | cons b q =>
    have hsub := token_sub h
    rw [List.cons_append, token_cons] at h
    rw [token_cons]
    have viaq : ∀ (mark : UInt8) (esc : Bool) (u : Bs) (c : UInt8), (qt mark esc (u ++ z)).map (fun p => (c, p.1, p.2)) = some (k, t, r ++ z) → (qt mark esc u).map (fun p => (c, p.1, p.2)) = some (k, t, r) := by
      intro mark esc u c hm
      cases hr : qt mark esc (u ++ z) with
      | none => rw [hr] at hm; cases hm
      | some p =>
        rw [hr] at hm
        obtain ⟨p1, p2⟩ := p
        simp only [Option.map_some, Option.some.injEq, Prod.mk.injEq] at hm
        obtain ⟨rfl, rfl, rfl⟩ := hm
        rw [qt_cut mark esc z _ u p1 r (Nat.le_refl _) hr]; rfl
    have hlen : r.length ≤ q.length := by
      obtain ⟨d, h1, h2, h3⟩ := hsub
      have := congrArg List.length h2
      rw [List.length_drop] at this
      simp only [List.length_append, List.length_cons] at this
      omega
    by_cases h1 : (b = 101 ∨ b = 69) ∧ (q ++ z).head? = some 39
    · rw [if_pos h1] at h
      cases q with
      | nil =>
        exfalso
        have : r = [] := List.length_eq_zero_iff.1 (Nat.le_zero.1 hlen)
        subst this
        cases z with
        | nil => cases h1.2
        | cons y z =>
          cases hr : qt 39 true ([] ++ y :: z).tail with
          | none => rw [hr] at h; cases h
          | some p =>
            rw [hr] at h
            simp only [Option.map_some, Option.some.injEq, Prod.mk.injEq] at h
            obtain ⟨d, hd, hdl⟩ := qt_sub _ _ _ _ p.1 p.2 (Nat.le_refl _) hr
            have := congrArg List.length hd
            rw [h.2.2] at this
            simp at this hdl
            omega
      | cons y q =>
        rw [if_pos (show (b = 101 ∨ b = 69) ∧ (y :: q).head? = some 39 from h1)]
        exact viaq 39 true q 115 h
    rw [if_neg h1] at h
    have h1' : ¬ ((b = 101 ∨ b = 69) ∧ q.head? = some 39) := by
      intro e
      refine h1 ⟨e.1, ?_⟩
      cases q with
      | nil => cases e.2
      | cons => exact e.2
    rw [if_neg h1']
    by_cases hb : bw b = true
    · rw [if_pos hb] at h ⊢
      simp only [Option.some.injEq, Prod.mk.injEq] at h ⊢
      obtain ⟨hk, ht, hr⟩ := h
      rw [← List.cons_append] at ht hr
      have e := List.takeWhile_append_dropWhile (p := inw) (l := b :: q ++ z)
      rw [hr, ← List.append_assoc] at e
      have e := List.append_cancel_right e
      have hw := takeWhile_le (p := inw) (b :: q) z (by have := congrArg List.length e; rw [List.length_append] at this; omega)
      rw [hw] at ht e
      refine ⟨hk, ht, ?_⟩
      have e2 := List.takeWhile_append_dropWhile (p := inw) (l := b :: q)
      exact List.append_cancel_left (e2.trans e.symm)
    rw [if_neg hb] at h ⊢
    by_cases h3 : b = 34
    · rw [if_pos h3] at h ⊢
      cases hr : qt 34 false (q ++ z) with
      | none => rw [hr] at h; cases h
      | some p =>
        rw [hr] at h
        obtain ⟨p1, p2⟩ := p
        simp only [Option.bind_some] at h
        by_cases h4 : p1 = []
        · rw [if_pos h4] at h; cases h
        · rw [if_neg h4] at h
          simp only [Option.some.injEq, Prod.mk.injEq] at h
          obtain ⟨rfl, rfl, rfl⟩ := h
          rw [qt_cut 34 false z _ q p1 r (Nat.le_refl _) hr, Option.bind_some, if_neg h4]
    rw [if_neg h3] at h ⊢
    by_cases h4 : b = 39
    · rw [if_pos h4] at h ⊢
      exact viaq 39 false q 115 h
    rw [if_neg h4] at h ⊢
    by_cases h5 : dg b = true ∨ b = 46 ∧ dg ((q ++ z).headD 0) = true
    · rw [if_pos h5] at h
      simp only [Option.some.injEq, Prod.mk.injEq] at h
      obtain ⟨hk, ht, hr⟩ := h
      rw [← List.cons_append] at ht hr
      have hn : nl (b :: q ++ z) + r.length = (b :: q).length := by
        have h1 := congrArg List.length hr
        have h2 := nl_le (b :: q ++ z)
        rw [List.length_drop, List.length_append] at h1
        rw [List.length_append] at h1 h2
        omega
      have hnl := nl_cut z _ (b :: q) (Nat.le_refl _) (by omega)
      have h5' : dg b = true ∨ b = 46 ∧ dg (q.headD 0) = true := by
        refine h5.imp id fun e => ⟨e.1, ?_⟩
        cases q with
        | cons => exact e.2
        | nil =>
          exfalso
          have hp : 1 ≤ nl ([] ++ z) := by
            have := e.2
            cases z with
            | nil => exact absurd this (by decide)
            | cons x z => rw [List.nil_append, nl_on (a := x) (.inl this)]; omega
          rw [List.cons_append, nl_on (.inr e.1)] at hn
          simp only [List.length_cons, List.length_nil] at hn
          omega
      rw [if_pos h5']
      rw [List.take_append_of_le_length (by omega)] at ht
      rw [List.drop_append_of_le_length (by omega)] at hr
      rw [hnl, ht, List.append_cancel_right hr, hk]
    rw [if_neg h5] at h
    have h5' : ¬ (dg b = true ∨ b = 46 ∧ dg (q.headD 0) = true) := fun e => h5 (e.imp id fun e => ⟨e.1, headD_cut q z dg (by decide) e.2⟩)
    rw [if_neg h5']
    rw [← List.cons_append] at h
    cases htg : tagOf (b :: q ++ z) with
    | none =>
      rw [htg] at h
      simp only [Option.some.injEq, Prod.mk.injEq] at h
      have hn : tagOf (b :: q) = none := by
        cases hx : tagOf (b :: q) with
        | none => rfl
        | some t => rw [tag_more z hx] at htg; cases htg
      rw [hn, h.1, h.2.1, List.append_cancel_right h.2.2]
    | some tg =>
      rw [htg] at h
      obtain ⟨_, htl, _, ht0⟩ := tag_prefix htg
      have h : (find tg ((b :: q ++ z).drop tg.length)).map _ = _ := h
      cases hr : find tg ((b :: q ++ z).drop tg.length) with
      | none => rw [hr] at h; cases h
      | some n =>
        have hn : n + tg.length ≤ ((b :: q ++ z).drop tg.length).length := by
          rcases find_index tg ((b :: q ++ z).drop tg.length) with ⟨h1, _⟩ | ⟨n', h1, _, h3⟩
          · rw [hr] at h1; cases h1
          · rw [hr] at h1; cases h1; exact h3
        rw [hr] at h
        simp only [Option.map_some, Option.some.injEq, Prod.mk.injEq] at h
        obtain ⟨hk, ht, hd⟩ := h
        rw [List.length_drop] at hn
        have hq : tg.length + n + tg.length + r.length = (b :: q).length := by
          have := congrArg List.length hd
          rw [List.length_drop, List.length_append, List.length_append] at this
          rw [List.length_append] at hn
          omega
        rw [tag_cut htg (by omega)]
        rw [List.drop_append_of_le_length (by omega)] at hr ht hd
        show (find tg ((b :: q).drop tg.length)).map _ = _
        rw [find_cut tg z ht0 _ n hr (by rw [List.length_drop]; omega)]
        rw [List.take_append_of_le_length (by rw [List.length_drop]; omega)] at ht
        simp only [Option.map_some, hk, ht]
        rw [List.append_cancel_right hd]
end Go.Proofs.YtgopajddloeclaaDoor
