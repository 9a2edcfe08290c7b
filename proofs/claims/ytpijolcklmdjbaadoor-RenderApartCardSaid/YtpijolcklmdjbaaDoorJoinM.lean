/- Two texts, a line's end between: the tokens of both. -/
import Derived.Test.YtpijolcklmdjbaaDoorNumM
namespace Go.Proofs.YtpijolcklmdjbaaDoor

def joined (z : Bs) : Bs → Option Bs
  | [] => sk z 0
  | a :: q => some (a :: q ++ 10 :: z)

theorem sk_blank' (a : UInt8) (q : Bs) (h : blank a = true) : sk (a :: q) 0 = sk q 0 := by
  cases q with
  | nil => show (if blank a then sk [] 0 else some [a]) = _; rw [if_pos h]
  | cons b q => rw [sk, if_pos h]
theorem sk_line' (a : UInt8) (q : Bs) : sk (a :: q) 1 = if a = 10 then sk q 0 else sk q 1 := by cases q <;> rfl

theorem sk_join (z : Bs) : ∀ (n : Nat) (l : Bs) (m : Nat) (r : Bs), l.length ≤ n → sk l m = some r → sk (l ++ 10 :: z) m = joined z r := by
  intro n
  have base : ∀ m r, sk [] m = some r → sk (10 :: z) m = joined z r := by
    intro m r h
    match m with
    | 0 => cases h; exact sk_blank' _ _ (by decide)
    | 1 => cases h; rw [sk_line', if_pos rfl]; rfl
    | d + 2 => rw [sk, if_neg (by omega)] at h; cases h
  induction n with
  | zero =>
    intro l m r hl h
    have : l = [] := List.length_eq_zero_iff.1 (by omega)
    subst this
    exact base m r h
  | succ n ih =>
    intro l m r hl h
    match l, m with
    | [], m => exact base m r h
    | [a], 0 =>
      rw [sk] at h
      split at h
      · rename_i hb
        rw [List.cons_append, sk_blank' _ _ hb]
        exact ih [] 0 r (by simp) h
      · rename_i hb
        cases h
        show sk (a :: 10 :: z) 0 = _
        rw [sk, if_neg hb, if_neg (fun e => absurd e.2 (by decide)), if_neg (fun e => absurd e.2 (by decide))]
        rfl
    | a :: b :: q, 0 =>
      simp only [List.length_cons] at hl
      rw [sk] at h
      show sk (a :: b :: (q ++ 10 :: z)) 0 = _
      rw [sk]
      by_cases hb : blank a = true
      · rw [if_pos hb] at h ⊢
        exact ih (b :: q) 0 r (by simp; omega) h
      · rw [if_neg hb] at h ⊢
        by_cases h1 : a = 45 ∧ b = 45
        · rw [if_pos h1] at h ⊢
          exact ih q 1 r (by omega) h
        · rw [if_neg h1] at h ⊢
          by_cases h2 : a = 47 ∧ b = 42
          · rw [if_pos h2] at h ⊢
            exact ih q 3 r (by omega) h
          · rw [if_neg h2] at h ⊢
            cases h; rfl
    | a :: q, 1 =>
      simp only [List.length_cons] at hl
      rw [sk_line'] at h
      rw [List.cons_append, sk_line']
      split at h
      · rename_i ha
        rw [if_pos ha]
        exact ih q 0 r (by omega) h
      · rename_i ha
        rw [if_neg ha]
        exact ih q 1 r (by omega) h
    | [a], d + 2 => cases h
    | a :: b :: q, d + 2 =>
      simp only [List.length_cons] at hl
      rw [sk] at h
      show sk (a :: b :: (q ++ 10 :: z)) (d + 2) = _
      rw [sk]
      by_cases h1 : a = 47 ∧ b = 42
      · rw [if_pos h1] at h ⊢
        split at h
        · rename_i h2
          rw [if_pos h2]
          exact ih q _ r (by omega) h
        · cases h
      · rw [if_neg h1] at h ⊢
        by_cases h2 : a = 42 ∧ b = 47
        · rw [if_pos h2] at h ⊢
          split at h
          · rename_i h3
            rw [if_pos h3]
            exact ih q 0 r (by omega) h
          · rename_i h3
            rw [if_neg h3]
            exact ih q _ r (by omega) h
        · rw [if_neg h2] at h ⊢
          exact ih (b :: q) _ r (by simp; omega) h

theorem qt_join (z : Bs) (mark : UInt8) (hm : mark ≠ 10) (esc : Bool) : ∀ (n : Nat) (l t r : Bs), l.length ≤ n → qt mark esc l = some (t, r) → qt mark esc (l ++ 10 :: z) = some (t, r ++ 10 :: z) := by
  intro n
  induction n with
  | zero =>
    intro l t r hl h
    have : l = [] := List.length_eq_zero_iff.1 (by omega)
    subst this
    cases h
  | succ n ih =>
    intro l t r hl h
    have up : ∀ (q : Bs) (c : UInt8), q.length ≤ n → (qt mark esc q).map (fun p => (c :: p.1, p.2)) = some (t, r) → (qt mark esc (q ++ 10 :: z)).map (fun p => (c :: p.1, p.2)) = some (t, r ++ 10 :: z) := by
      intro q c hn hm
      cases hr : qt mark esc q with
      | none => rw [hr] at hm; cases hm
      | some p =>
        rw [hr] at hm
        cases hm
        rw [ih q p.1 p.2 hn hr]
        rfl
    match l, hl, h, up with
    | [], _, h, _ => cases h
    | [x], _, h, _ =>
      rw [qt_one] at h
      show qt mark esc (x :: 10 :: z) = _
      rw [qt_two]
      split at h
      · cases h
      · rename_i hx
        rw [if_neg hx]
        split at h
        · rename_i h2
          rw [if_pos h2, if_neg (fun e => hm e.symm)]
          cases h; rfl
        · cases h
    | x :: y :: q, hl, h, up =>
      simp only [List.length_cons] at hl
      rw [qt_two] at h
      show qt mark esc (x :: y :: (q ++ 10 :: z)) = _
      rw [qt_two]
      by_cases h1 : esc = true ∧ x = 92
      · rw [if_pos h1] at h ⊢
        exact up q _ (by omega) h
      · rw [if_neg h1] at h ⊢
        by_cases h2 : x = mark
        · rw [if_pos h2] at h ⊢
          by_cases h3 : y = mark
          · rw [if_pos h3] at h ⊢
            exact up q _ (by omega) h
          · rw [if_neg h3] at h ⊢
            cases h; rfl
        · rw [if_neg h2] at h ⊢
          exact up (y :: q) _ (by simp; omega) h

theorem takeWhile_join (p : UInt8 → Bool) (h : p 10 = false) (l z : Bs) : (l ++ 10 :: z).takeWhile p = l.takeWhile p ∧ (l ++ 10 :: z).dropWhile p = l.dropWhile p ++ 10 :: z := by
  induction l with
  | nil => simp [h]
  | cons a l ih =>
    by_cases ha : p a = true
    · simp [ha, ih]
    · simp [ha]

theorem headD_join (l z : Bs) (P : UInt8 → Bool) (h0 : P 0 = false) (h1 : P 10 = false) : P ((l ++ 10 :: z).headD 0) = P (l.headD 0) := by
  cases l with
  | nil => exact h1.trans h0.symm
  | cons => rfl

theorem nl_join (z : Bs) : ∀ (n : Nat) (l : Bs), l.length ≤ n → nl (l ++ 10 :: z) = nl l := by
  intro n
  have base : nl (10 :: z) = 0 := by rw [nl_else (by decide), if_neg (by decide)]
  induction n with
  | zero =>
    intro l hl
    have : l = [] := List.length_eq_zero_iff.1 (by omega)
    subst this
    exact base
  | succ n ih =>
    intro l hl
    match l with
    | [] => exact base
    | a :: r =>
      rw [List.length_cons] at hl
      rw [List.cons_append]
      by_cases h : dg a = true ∨ a = 46
      · rw [nl_on h, nl_on h, ih r (by omega)]
      · rw [nl_else h, nl_else h]
        have e1 : ((r ++ 10 :: z).headD 0 = 43 ∨ (r ++ 10 :: z).headD 0 = 45) = (r.headD 0 = 43 ∨ r.headD 0 = 45) := by
          cases r with
          | nil => exact propext ⟨fun e => e.elim (fun (h : (10 : UInt8) = 43) => absurd h (by decide)) (fun (h : (10 : UInt8) = 45) => absurd h (by decide)), fun e => e.elim (fun (h : (0 : UInt8) = 43) => absurd h (by decide)) (fun (h : (0 : UInt8) = 45) => absurd h (by decide))⟩
          | cons => rfl
        have e2 : dg ((r ++ 10 :: z).headD 0) = dg (r.headD 0) := headD_join r z dg (by decide) (by decide)
        simp only [e1, e2]
        split
        · split
          · rename_i h3
            cases r with
            | nil => exact absurd h3 (by decide)
            | cons b r =>
              have e3 : dg ((b :: r ++ 10 :: z).tail.headD 0) = dg ((b :: r).tail.headD 0) := headD_join r z dg (by decide) (by decide)
              rw [e3]
              show (if _ then 2 + nl (r ++ 10 :: z) else 0) = if _ then 2 + nl r else 0
              rw [ih r (by simp at hl; omega)]
          · rw [ih r (by omega)]
        · rfl

theorem prefix_join (t l z : Bs) (h : t.length ≤ l.length) : t.isPrefixOf (l ++ z) = t.isPrefixOf l := by
  rw [Bool.eq_iff_iff, List.isPrefixOf_iff_prefix, List.isPrefixOf_iff_prefix]
  constructor
  · intro hp
    exact List.prefix_of_prefix_length_le hp (List.prefix_append l z) h
  · intro hp
    exact hp.trans (List.prefix_append l z)

theorem find_join (t z : Bs) : ∀ (l : Bs) (n : Nat), find t l = some n → find t (l ++ z) = some n := by
  intro l
  induction l with
  | nil =>
    intro n h
    rw [find] at h
    split at h
    · rename_i ht
      subst ht
      cases h
      cases z with
      | nil => rfl
      | cons => rfl
    · cases h
  | cons a r ih =>
    intro n h
    have hb : t.length ≤ (a :: r).length := by
      rcases find_index t (a :: r) with ⟨h1, _⟩ | ⟨n', _, _, h3⟩
      · rw [h] at h1; cases h1
      · omega
    rw [find] at h
    rw [List.cons_append, find, ← List.cons_append, prefix_join t _ z hb]
    split at h
    · rename_i h1
      rw [if_pos h1]; exact h
    · rename_i h1
      rw [if_neg h1]
      cases hr : find t r with
      | none => rw [hr] at h; cases h
      | some k =>
        rw [hr] at h
        rw [ih k hr]
        exact h

theorem tagBody_join (l z : Bs) : tagBody (l ++ 10 :: z) = tagBody l := by
  cases l with
  | nil => rw [List.nil_append, tagBody, if_neg (by decide)]; rfl
  | cons b r => rw [List.cons_append, tagBody, tagBody, (takeWhile_join (fun c => bw c || dg c) (by decide) r z).1]

theorem tagBody_le (l : Bs) : (tagBody l).length ≤ l.length := by
  cases l with
  | nil => exact Nat.le_refl _
  | cons b r =>
    rw [tagBody]
    split
    · have := (List.takeWhile_prefix (l := r) (fun c => bw c || dg c)).length_le
      simp; omega
    · simp

theorem tag_join (l z : Bs) (hl : l ≠ []) : tagOf (l ++ 10 :: z) = tagOf l := by
  cases l with
  | nil => exact absurd rfl hl
  | cons a r =>
    rw [List.cons_append, tagOf, tagOf, tagBody_join]
    have e : (((r ++ 10 :: z).drop (tagBody r).length).head? = some 36) = ((r.drop (tagBody r).length).head? = some 36) := by
      rw [List.drop_append_of_le_length (tagBody_le r)]
      cases r.drop (tagBody r).length with
      | nil => exact propext ⟨fun (h : some (10 : UInt8) = some 36) => absurd h (by decide), fun (h : (none : Option UInt8) = some 36) => absurd h (by decide)⟩
      | cons => rfl
    simp only [e]

theorem token_join {l : Bs} (z : Bs) {k : UInt8} {t r : Bs} (h : token l = some (k, t, r)) : token (l ++ 10 :: z) = some (k, t, r ++ 10 :: z) := by
  cases l with
  | nil => cases h
  | cons b q =>
    rw [token] at h
    rw [List.cons_append, token]
    have e1 : ((q ++ 10 :: z).head? = some 39) = (q.head? = some 39) := by
      cases q with
      | nil => exact propext ⟨fun (h : some (10 : UInt8) = some 39) => absurd h (by decide), fun (h : (none : Option UInt8) = some 39) => absurd h (by decide)⟩
      | cons => rfl
    have e2 : dg ((q ++ 10 :: z).headD 0) = dg (q.headD 0) := headD_join q z dg (by decide) (by decide)
    simp only [e1, e2]
    have viaq : ∀ (mark : UInt8) (esc : Bool) (u : Bs) (c : UInt8), mark ≠ 10 → (qt mark esc u).map (fun p => (c, p.1, p.2)) = some (k, t, r) → (qt mark esc (u ++ 10 :: z)).map (fun p => (c, p.1, p.2)) = some (k, t, r ++ 10 :: z) := by
      intro mark esc u c hmk hm
      cases hr : qt mark esc u with
      | none => rw [hr] at hm; cases hm
      | some p =>
        rw [hr] at hm
        cases hm
        rw [qt_join z mark hmk esc _ u p.1 p.2 (Nat.le_refl _) hr]
        rfl
    split at h
    · rename_i hc
      rw [if_pos hc]
      cases q with
      | nil => cases hc.2
      | cons y q => exact viaq 39 true q 115 (by decide) h
    rename_i hc
    rw [if_neg hc]
    split at h
    · rename_i hb
      rw [if_pos hb]
      cases h
      rw [← List.cons_append, (takeWhile_join inw (by decide) (b :: q) z).1, (takeWhile_join inw (by decide) (b :: q) z).2]
    rename_i hb
    rw [if_neg hb]
    split at h
    · rename_i h3
      rw [if_pos h3]
      cases hr : qt 34 false q with
      | none => rw [hr] at h; cases h
      | some p =>
        rw [qt_join z 34 (by decide) false _ q p.1 p.2 (Nat.le_refl _) hr]
        rw [hr] at h
        simp only [Option.bind_some] at h ⊢
        split at h
        · cases h
        · rename_i h4
          rw [if_neg h4]
          cases h; rfl
    rename_i h3
    rw [if_neg h3]
    split at h
    · rename_i h4
      rw [if_pos h4]
      exact viaq 39 false q 115 (by decide) h
    rename_i h4
    rw [if_neg h4]
    split at h
    · rename_i h5
      rw [if_pos h5]
      cases h
      rw [← List.cons_append, nl_join z _ (b :: q) (Nat.le_refl _), List.take_append_of_le_length (nl_le _), List.drop_append_of_le_length (nl_le _)]
    rename_i h5
    rw [if_neg h5, ← List.cons_append, tag_join (b :: q) z (by simp)]
    split at h
    · rename_i tg htg
      obtain ⟨_, htl, _, ht0⟩ := tag_prefix htg
      cases hr : find tg ((b :: q).drop tg.length) with
      | none => rw [hr] at h; cases h
      | some n =>
        have hn : n + tg.length ≤ ((b :: q).drop tg.length).length := by
          rcases find_index tg ((b :: q).drop tg.length) with ⟨h1, _⟩ | ⟨n', h1, _, h3⟩
          · rw [hr] at h1; cases h1
          · rw [hr] at h1; cases h1; exact h3
        rw [hr] at h
        show (find tg ((b :: q ++ 10 :: z).drop tg.length)).map _ = _
        rw [List.drop_append_of_le_length htl, find_join tg _ _ n hr]
        cases h
        rw [List.length_drop] at hn
        simp only [Option.map_some]
        rw [List.take_append_of_le_length (by rw [List.length_drop]; omega), List.drop_append_of_le_length (by omega)]
    · cases h; rfl

def moved (d : Nat) (t : Tok) : Tok := ⟨t.kind, t.text, t.lo + d, t.hi + d⟩

theorem toks_fuel : ∀ (f g n : Nat) (l : Bs), l.length < f → l.length < g → toks f n l = toks g n l := by
  intro f
  induction f with
  | zero => intro g n l h; omega
  | succ f ih =>
    intro g n l hf hg
    match g with
    | g + 1 =>
      rw [toks_tk, toks_tk]
      cases hs : sk l 0 with
      | none => rfl
      | some q =>
        obtain ⟨d, hd, hdl⟩ := sk_sub l q hs
        cases q with
        | nil => rfl
        | cons a q =>
          show tk f n (a :: q) = tk g n (a :: q)
          rw [tk, tk]
          cases ht : token (a :: q) with
          | none => rfl
          | some p =>
            obtain ⟨k, t, r⟩ := p
            obtain ⟨e, he1, he, hel⟩ := token_sub ht
            have h1 : r.length < l.length := by
              rw [he, List.length_drop]
              have := congrArg List.length hd
              rw [List.length_drop] at this
              omega
            show (toks f n r).map _ = (toks g n r).map _
            rw [ih g n r (by omega) (by omega)]

theorem toks_moved : ∀ (f n d : Nat) (l : Bs), l.length ≤ n → toks f (n + d) l = (toks f n l).map (·.map (moved d)) := by
  intro f
  induction f with
  | zero => intro n d l _; rfl
  | succ f ih =>
    intro n d l hl
    rw [toks_tk, toks_tk]
    cases hs : sk l 0 with
    | none => rfl
    | some q =>
      obtain ⟨j, hj, hjl⟩ := sk_sub l q hs
      have h0 := congrArg List.length hj
      rw [List.length_drop] at h0
      cases q with
      | nil => rfl
      | cons a q =>
        show tk f (n + d) (a :: q) = (tk f n (a :: q)).map _
        rw [tk, tk]
        cases ht : token (a :: q) with
        | none => rfl
        | some p =>
          obtain ⟨k, t, r⟩ := p
          obtain ⟨e, he1, he, hel⟩ := token_sub ht
          have h1 := congrArg List.length he
          rw [List.length_drop] at h1
          show (toks f (n + d) r).map _ = ((toks f n r).map _).map _
          rw [ih n d r (by omega), Option.map_map, Option.map_map]
          congr 1
          funext ts
          show (⟨k, t, n + d - (a :: q).length, n + d - r.length⟩ : Tok) :: ts.map (moved d) = moved d ⟨k, t, n - (a :: q).length, n - r.length⟩ :: ts.map (moved d)
          congr 1
          show _ = (⟨k, t, n - (a :: q).length + d, n - r.length + d⟩ : Tok)
          congr 1 <;> omega

/-- Two texts, a line's end between. -/
theorem toks_join (z : Bs) : ∀ (f n : Nat) (l : Bs) (L : List Tok), l.length ≤ n → toks f n l = some L → ∀ F, l.length + z.length + 1 < F → toks F (n + (z.length + 1)) (l ++ 10 :: z) = (toks (z.length + 1) z.length z).map fun R => L ++ R.map (moved (n + 1)) := by
  intro f
  induction f with
  | zero => intro n l L _ h; cases h
  | succ f ih =>
    intro n l L hl h F hF
    rw [toks_tk] at h
    match F with
    | F + 1 =>
      cases hs : sk l 0 with
      | none => rw [hs] at h; cases h
      | some q =>
        rw [hs] at h
        have hj := sk_join z _ l 0 q (Nat.le_refl _) hs
        obtain ⟨j, hjd, hjl⟩ := sk_sub l q hs
        have h0 := congrArg List.length hjd
        rw [List.length_drop] at h0
        cases q with
        | nil =>
          cases h
          have e : n + (z.length + 1) = z.length + (n + 1) := by omega
          rw [toks_tk, hj, e]
          show (sk z 0).bind _ = _
          rw [← toks_tk, toks_moved _ _ _ _ (Nat.le_refl _), toks_fuel (F + 1) (z.length + 1) _ z (by omega) (by omega)]
          congr 1
        | cons a q =>
          rw [toks_tk, hj]
          show tk F (n + (z.length + 1)) (a :: q ++ 10 :: z) = _
          have h : tk f n (a :: q) = some L := h
          rw [tk] at h
          cases ht : token (a :: q) with
          | none => rw [ht] at h; cases h
          | some p =>
            obtain ⟨k, t, r⟩ := p
            obtain ⟨e, he1, he, hel⟩ := token_sub ht
            have h1 := congrArg List.length he
            rw [List.length_drop] at h1
            rw [ht] at h
            have h : (toks f n r).map _ = some L := h
            cases hr : toks f n r with
            | none => rw [hr] at h; cases h
            | some L' =>
              rw [hr] at h
              cases h
              rw [List.cons_append, tk, ← List.cons_append, token_join z ht]
              show (toks F (n + (z.length + 1)) (r ++ 10 :: z)).map _ = _
              rw [ih n r L' (by omega) hr F (by simp at *; omega), Option.map_map]
              congr 1
              funext R
              show (⟨k, t, _, _⟩ : Tok) :: (L' ++ _) = _
              rw [List.cons_append]
              congr 1
              congr 1 <;> (simp only [List.length_append, List.length_cons] at *; omega)

theorem tokens_join (s z : Bs) {L : List Tok} (h : tokens s = some L) : tokens (s ++ 10 :: z) = (tokens z).map fun R => L ++ R.map (moved (s.length + 1)) := by
  unfold tokens at h ⊢
  split at h
  · cases h
  · rename_i h0
    by_cases hz : (0 : UInt8) ∈ z
    · rw [if_pos hz, if_pos (by simp [hz])]; rfl
    · rw [if_neg hz, if_neg (by simp [h0, hz])]
      have := toks_join z _ _ s L (Nat.le_refl _) h ((s ++ 10 :: z).length + 1) (by rw [List.length_append, List.length_cons]; omega)
      rw [← this]
      simp
end Go.Proofs.YtpijolcklmdjbaaDoor
