/- Contracts and mathematics: JoinM, Kts, NReadM. -/
import Derived.Test.YtgopajddloeclaaDoorZ19
import Derived.Test.YtgopajddloeclaaDoorZ4
namespace Go.Proofs.YtgopajddloeclaaDoor

def joined (z : Bs) : Bs → Option Bs
  | [] => sk z 0
  | a :: q => some (a :: q ++ 10 :: z)

theorem sk_blank' (a : UInt8) (q : Bs) (h : blank a = true) : sk (a :: q) 0 = sk q 0 := by
  cases q with
  | nil => show (if blank a then sk [] 0 else some [a]) = _; rw [if_pos h]
  | cons b q => rw [sk, if_pos h]
theorem sk_line' (a : UInt8) (q : Bs) : sk (a :: q) 1 = if a = 10 then sk q 0 else sk q 1 := by cases q <;> rfl

theorem sk_join (z : Bs) : ∀ (n : Nat) (l : Bs) (m : Nat) (r : Bs), l.length ≤ n → sk l m = some r → sk (l ++ 10 :: z) m = joined z r := by
  intro n
  have base : ∀ m r, sk [] m = some r → sk (10 :: z) m = joined z r := by
    intro m r h
    match m with
    | 0 => cases h; exact sk_blank' _ _ (by decide)
    | 1 => cases h; rw [sk_line', if_pos rfl]; rfl
    | d + 2 => rw [sk, if_neg (by omega)] at h; cases h
  induction n with
  | zero =>
    intro l m r hl h
    have : l = [] := List.length_eq_zero_iff.1 (by omega)
    subst this
    exact base m r h
  | succ n ih =>
    intro l m r hl h
    match l, m with
    | [], m => exact base m r h
    | [a], 0 =>
      rw [sk] at h
      split at h
      · rename_i hb
        rw [List.cons_append, sk_blank' _ _ hb]
        exact ih [] 0 r (by simp) h
      · rename_i hb
        cases h
        show sk (a :: 10 :: z) 0 = _
        rw [sk, if_neg hb, if_neg (fun e => absurd e.2 (by decide)), if_neg (fun e => absurd e.2 (by decide))]
        rfl
    | a :: b :: q, 0 =>
      simp only [List.length_cons] at hl
      rw [sk] at h
      show sk (a :: b :: (q ++ 10 :: z)) 0 = _
      rw [sk]
      by_cases hb : blank a = true
      · rw [if_pos hb] at h ⊢
        exact ih (b :: q) 0 r (by simp; omega) h
      · rw [if_neg hb] at h ⊢
        by_cases h1 : a = 45 ∧ b = 45
        · rw [if_pos h1] at h ⊢
          exact ih q 1 r (by omega) h
        · rw [if_neg h1] at h ⊢
          by_cases h2 : a = 47 ∧ b = 42
          · rw [if_pos h2] at h ⊢
            exact ih q 3 r (by omega) h
          · rw [if_neg h2] at h ⊢
            cases h; rfl
    | a :: q, 1 =>
      simp only [List.length_cons] at hl
      rw [sk_line'] at h
      rw [List.cons_append, sk_line']
      split at h
      · rename_i ha
        rw [if_pos ha]
        exact ih q 0 r (by omega) h
      · rename_i ha
        rw [if_neg ha]
        exact ih q 1 r (by omega) h
    | [a], d + 2 => cases h
    | a :: b :: q, d + 2 =>
      simp only [List.length_cons] at hl
      rw [sk] at h
      show sk (a :: b :: (q ++ 10 :: z)) (d + 2) = _
      rw [sk]
      by_cases h1 : a = 47 ∧ b = 42
      · rw [if_pos h1] at h ⊢
        split at h
        · rename_i h2
          rw [if_pos h2]
          exact ih q _ r (by omega) h
        · cases h
      · rw [if_neg h1] at h ⊢
        by_cases h2 : a = 42 ∧ b = 47
        · rw [if_pos h2] at h ⊢
          split at h
          · rename_i h3
            rw [if_pos h3]
            exact ih q 0 r (by omega) h
          · rename_i h3
            rw [if_neg h3]
            exact ih q _ r (by omega) h
        · rw [if_neg h2] at h ⊢
          exact ih (b :: q) _ r (by simp; omega) h

theorem qt_join (z : Bs) (mark : UInt8) (hm : mark ≠ 10) (esc : Bool) : ∀ (n : Nat) (l t r : Bs), l.length ≤ n → qt mark esc l = some (t, r) → qt mark esc (l ++ 10 :: z) = some (t, r ++ 10 :: z) := by
  intro n
  induction n with
  | zero =>
    intro l t r hl h
    have : l = [] := List.length_eq_zero_iff.1 (by omega)
    subst this
    cases h
  | succ n ih =>
    intro l t r hl h
    have up : ∀ (q : Bs) (c : UInt8), q.length ≤ n → (qt mark esc q).map (fun p => (c :: p.1, p.2)) = some (t, r) → (qt mark esc (q ++ 10 :: z)).map (fun p => (c :: p.1, p.2)) = some (t, r ++ 10 :: z) := by
      intro q c hn hm
      cases hr : qt mark esc q with
      | none => rw [hr] at hm; cases hm
      | some p =>
        rw [hr] at hm
        cases hm
        rw [ih q p.1 p.2 hn hr]
        rfl
    match l, hl, h, up with
    | [], _, h, _ => cases h
    | [x], _, h, _ =>
      rw [qt_one] at h
      show qt mark esc (x :: 10 :: z) = _
      rw [qt_two]
      split at h
      · cases h
      · rename_i hx
        rw [if_neg hx]
        split at h
        · rename_i h2
          rw [if_pos h2, if_neg (fun e => hm e.symm)]
          cases h; rfl
        · cases h
    | x :: y :: q, hl, h, up =>
      simp only [List.length_cons] at hl
      rw [qt_two] at h
      show qt mark esc (x :: y :: (q ++ 10 :: z)) = _
      rw [qt_two]
      by_cases h1 : esc = true ∧ x = 92
      · rw [if_pos h1] at h ⊢
        exact up q _ (by omega) h
      · rw [if_neg h1] at h ⊢
        by_cases h2 : x = mark
        · rw [if_pos h2] at h ⊢
          by_cases h3 : y = mark
          · rw [if_pos h3] at h ⊢
            exact up q _ (by omega) h
          · rw [if_neg h3] at h ⊢
            cases h; rfl
        · rw [if_neg h2] at h ⊢
          exact up (y :: q) _ (by simp; omega) h

theorem takeWhile_join (p : UInt8 → Bool) (h : p 10 = false) (l z : Bs) : (l ++ 10 :: z).takeWhile p = l.takeWhile p ∧ (l ++ 10 :: z).dropWhile p = l.dropWhile p ++ 10 :: z := by
  induction l with
  | nil => simp [h]
  | cons a l ih =>
    by_cases ha : p a = true
    · simp [ha, ih]
    · simp [ha]

theorem headD_join (l z : Bs) (P : UInt8 → Bool) (h0 : P 0 = false) (h1 : P 10 = false) : P ((l ++ 10 :: z).headD 0) = P (l.headD 0) := by
  cases l with
  | nil => exact h1.trans h0.symm
  | cons => rfl

theorem nl_join (z : Bs) : ∀ (n : Nat) (l : Bs), l.length ≤ n → nl (l ++ 10 :: z) = nl l := by
  intro n
  have base : nl (10 :: z) = 0 := by rw [nl_else (by decide), if_neg (by decide)]
  induction n with
  | zero =>
    intro l hl
    have : l = [] := List.length_eq_zero_iff.1 (by omega)
    subst this
    exact base
  | succ n ih =>
    intro l hl
    match l with
    | [] => exact base
    | a :: r =>
      rw [List.length_cons] at hl
      rw [List.cons_append]
      by_cases h : dg a = true ∨ a = 46
      · rw [nl_on h, nl_on h, ih r (by omega)]
      · rw [nl_else h, nl_else h]
        have e1 : ((r ++ 10 :: z).headD 0 = 43 ∨ (r ++ 10 :: z).headD 0 = 45) = (r.headD 0 = 43 ∨ r.headD 0 = 45) := by
          cases r with
          | nil => exact propext ⟨fun e => e.elim (fun (h : (10 : UInt8) = 43) => absurd h (by decide)) (fun (h : (10 : UInt8) = 45) => absurd h (by decide)), fun e => e.elim (fun (h : (0 : UInt8) = 43) => absurd h (by decide)) (fun (h : (0 : UInt8) = 45) => absurd h (by decide))⟩
          | cons => rfl
        have e2 : dg ((r ++ 10 :: z).headD 0) = dg (r.headD 0) := headD_join r z dg (by decide) (by decide)
        simp only [e1, e2]
        split
        · split
          · rename_i h3
            cases r with
            | nil => exact absurd h3 (by decide)
            | cons b r =>
              have e3 : dg ((b :: r ++ 10 :: z).tail.headD 0) = dg ((b :: r).tail.headD 0) := headD_join r z dg (by decide) (by decide)
              rw [e3]
              show (if _ then 2 + nl (r ++ 10 :: z) else 0) = if _ then 2 + nl r else 0
              rw [ih r (by simp at hl; omega)]
          · rw [ih r (by omega)]
        · rfl

theorem prefix_join (t l z : Bs) (h : t.length ≤ l.length) : t.isPrefixOf (l ++ z) = t.isPrefixOf l := by
  rw [Bool.eq_iff_iff, List.isPrefixOf_iff_prefix, List.isPrefixOf_iff_prefix]
  constructor
  · intro hp
    exact List.prefix_of_prefix_length_le hp (List.prefix_append l z) h
  · intro hp
    exact hp.trans (List.prefix_append l z)

theorem find_join (t z : Bs) : ∀ (l : Bs) (n : Nat), find t l = some n → find t (l ++ z) = some n := by
  intro l
  induction l with
  | nil =>
    intro n h
    rw [find] at h
    split at h
    · rename_i ht
      subst ht
      cases h
      cases z with
      | nil => rfl
      | cons => rfl
    · cases h
  | cons a r ih =>
    intro n h
    have hb : t.length ≤ (a :: r).length := by
      rcases find_index t (a :: r) with ⟨h1, _⟩ | ⟨n', _, _, h3⟩
      · rw [h] at h1; cases h1
      · omega
    rw [find] at h
    rw [List.cons_append, find, ← List.cons_append, prefix_join t _ z hb]
    split at h
    · rename_i h1
      rw [if_pos h1]; exact h
    · rename_i h1
      rw [if_neg h1]
      cases hr : find t r with
      | none => rw [hr] at h; cases h
      | some k =>
        rw [hr] at h
        rw [ih k hr]
        exact h

theorem tagBody_join (l z : Bs) : tagBody (l ++ 10 :: z) = tagBody l := by
  cases l with
  | nil => rw [List.nil_append, tagBody, if_neg (by decide)]; rfl
  | cons b r => rw [List.cons_append, tagBody, tagBody, (takeWhile_join (fun c => bw c || dg c) (by decide) r z).1]

theorem tagBody_le (l : Bs) : (tagBody l).length ≤ l.length := by
  cases l with
  | nil => exact Nat.le_refl _
  | cons b r =>
    rw [tagBody]
    split
    · have := (List.takeWhile_prefix (l := r) (fun c => bw c || dg c)).length_le
      simp; omega
    · simp

theorem tag_join (l z : Bs) (hl : l ≠ []) : tagOf (l ++ 10 :: z) = tagOf l := by
  cases l with
  | nil => exact absurd rfl hl
  | cons a r =>
    rw [List.cons_append, tagOf, tagOf, tagBody_join]
    have e : (((r ++ 10 :: z).drop (tagBody r).length).head? = some 36) = ((r.drop (tagBody r).length).head? = some 36) := by
      rw [List.drop_append_of_le_length (tagBody_le r)]
      cases r.drop (tagBody r).length with
      | nil => exact propext ⟨fun (h : some (10 : UInt8) = some 36) => absurd h (by decide), fun (h : (none : Option UInt8) = some 36) => absurd h (by decide)⟩
      | cons => rfl
    simp only [e]

theorem token_join {l : Bs} (z : Bs) {k : UInt8} {t r : Bs} (h : token l = some (k, t, r)) : token (l ++ 10 :: z) = some (k, t, r ++ 10 :: z) := by
  cases l with
  | nil => cases h
  | cons b q =>
    rw [token] at h
    rw [List.cons_append, token]
    have e1 : ((q ++ 10 :: z).head? = some 39) = (q.head? = some 39) := by
      cases q with
      | nil => exact propext ⟨fun (h : some (10 : UInt8) = some 39) => absurd h (by decide), fun (h : (none : Option UInt8) = some 39) => absurd h (by decide)⟩
      | cons => rfl
    have e2 : dg ((q ++ 10 :: z).headD 0) = dg (q.headD 0) := headD_join q z dg (by decide) (by decide)
    simp only [e1, e2]
    have viaq : ∀ (mark : UInt8) (esc : Bool) (u : Bs) (c : UInt8), mark ≠ 10 → (qt mark esc u).map (fun p => (c, p.1, p.2)) = some (k, t, r) → (qt mark esc (u ++ 10 :: z)).map (fun p => (c, p.1, p.2)) = some (k, t, r ++ 10 :: z) := by
      intro mark esc u c hmk hm
      cases hr : qt mark esc u with
      | none => rw [hr] at hm; cases hm
      | some p =>
        rw [hr] at hm
        cases hm
        rw [qt_join z mark hmk esc _ u p.1 p.2 (Nat.le_refl _) hr]
        rfl
    split at h
    · rename_i hc
      rw [if_pos hc]
      cases q with
      | nil => cases hc.2
      | cons y q => exact viaq 39 true q 115 (by decide) h
    rename_i hc
    rw [if_neg hc]
    split at h
    · rename_i hb
      rw [if_pos hb]
      cases h
      rw [← List.cons_append, (takeWhile_join inw (by decide) (b :: q) z).1, (takeWhile_join inw (by decide) (b :: q) z).2]
    rename_i hb
    rw [if_neg hb]
    split at h
    · rename_i h3
      rw [if_pos h3]
      cases hr : qt 34 false q with
      | none => rw [hr] at h; cases h
      | some p =>
        rw [qt_join z 34 (by decide) false _ q p.1 p.2 (Nat.le_refl _) hr]
        rw [hr] at h
        simp only [Option.bind_some] at h ⊢
        split at h
        · cases h
        · rename_i h4
          rw [if_neg h4]
          cases h; rfl
    rename_i h3
    rw [if_neg h3]
    split at h
    · rename_i h4
      rw [if_pos h4]
      exact viaq 39 false q 115 (by decide) h
    rename_i h4
    rw [if_neg h4]
    split at h
    · rename_i h5
      rw [if_pos h5]
      cases h
      rw [← List.cons_append, nl_join z _ (b :: q) (Nat.le_refl _), List.take_append_of_le_length (nl_le _), List.drop_append_of_le_length (nl_le _)]
    rename_i h5
    rw [if_neg h5, ← List.cons_append, tag_join (b :: q) z (by simp)]
    split at h
    · rename_i tg htg
      obtain ⟨_, htl, _, ht0⟩ := tag_prefix htg
      cases hr : find tg ((b :: q).drop tg.length) with
      | none => rw [hr] at h; cases h
      | some n =>
        have hn : n + tg.length ≤ ((b :: q).drop tg.length).length := by
          rcases find_index tg ((b :: q).drop tg.length) with ⟨h1, _⟩ | ⟨n', h1, _, h3⟩
          · rw [hr] at h1; cases h1
          · rw [hr] at h1; cases h1; exact h3
        rw [hr] at h
        show (find tg ((b :: q ++ 10 :: z).drop tg.length)).map _ = _
        rw [List.drop_append_of_le_length htl, find_join tg _ _ n hr]
        cases h
        rw [List.length_drop] at hn
        simp only [Option.map_some]
        rw [List.take_append_of_le_length (by rw [List.length_drop]; omega), List.drop_append_of_le_length (by omega)]
    · cases h; rfl

def moved (d : Nat) (t : Tok) : Tok := ⟨t.kind, t.text, t.lo + d, t.hi + d⟩

theorem toks_fuel : ∀ (f g n : Nat) (l : Bs), l.length < f → l.length < g → toks f n l = toks g n l := by
  intro f
  induction f with
  | zero => intro g n l h; omega
  | succ f ih =>
    intro g n l hf hg
    match g with
    | g + 1 =>
      rw [toks_tk, toks_tk]
      cases hs : sk l 0 with
      | none => rfl
      | some q =>
        obtain ⟨d, hd, hdl⟩ := sk_sub l q hs
        cases q with
        | nil => rfl
        | cons a q =>
          show tk f n (a :: q) = tk g n (a :: q)
          rw [tk, tk]
          cases ht : token (a :: q) with
          | none => rfl
          | some p =>
            obtain ⟨k, t, r⟩ := p
            obtain ⟨e, he1, he, hel⟩ := token_sub ht
            have h1 : r.length < l.length := by
              rw [he, List.length_drop]
              have := congrArg List.length hd
              rw [List.length_drop] at this
              omega
            show (toks f n r).map _ = (toks g n r).map _
            rw [ih g n r (by omega) (by omega)]

theorem toks_moved : ∀ (f n d : Nat) (l : Bs), l.length ≤ n → toks f (n + d) l = (toks f n l).map (·.map (moved d)) := by
  intro f
  induction f with
  | zero => intro n d l _; rfl
  | succ f ih =>
    intro n d l hl
    rw [toks_tk, toks_tk]
    cases hs : sk l 0 with
    | none => rfl
    | some q =>
      obtain ⟨j, hj, hjl⟩ := sk_sub l q hs
      have h0 := congrArg List.length hj
      rw [List.length_drop] at h0
      cases q with
      | nil => rfl
      | cons a q =>
        show tk f (n + d) (a :: q) = (tk f n (a :: q)).map _
        rw [tk, tk]
        cases ht : token (a :: q) with
        | none => rfl
        | some p =>
          obtain ⟨k, t, r⟩ := p
          obtain ⟨e, he1, he, hel⟩ := token_sub ht
          have h1 := congrArg List.length he
          rw [List.length_drop] at h1
          show (toks f (n + d) r).map _ = ((toks f n r).map _).map _
          rw [ih n d r (by omega), Option.map_map, Option.map_map]
          congr 1
          funext ts
          show (⟨k, t, n + d - (a :: q).length, n + d - r.length⟩ : Tok) :: ts.map (moved d) = moved d ⟨k, t, n - (a :: q).length, n - r.length⟩ :: ts.map (moved d)
          congr 1
          show _ = (⟨k, t, n - (a :: q).length + d, n - r.length + d⟩ : Tok)
          congr 1 <;> omega

/-- Two texts, a line's end between. -/
theorem toks_join (z : Bs) : ∀ (f n : Nat) (l : Bs) (L : List Tok), l.length ≤ n → toks f n l = some L → ∀ F, l.length + z.length + 1 < F → toks F (n + (z.length + 1)) (l ++ 10 :: z) = (toks (z.length + 1) z.length z).map fun R => L ++ R.map (moved (n + 1)) := by
  intro f
  induction f with
  | zero => intro n l L _ h; cases h
  | succ f ih =>
    intro n l L hl h F hF
    rw [toks_tk] at h
    match F with
    | F + 1 =>
      cases hs : sk l 0 with
      | none => rw [hs] at h; cases h
      | some q =>
        rw [hs] at h
        have hj := sk_join z _ l 0 q (Nat.le_refl _) hs
        obtain ⟨j, hjd, hjl⟩ := sk_sub l q hs
        have h0 := congrArg List.length hjd
        rw [List.length_drop] at h0
        cases q with
        | nil =>
          cases h
          have e : n + (z.length + 1) = z.length + (n + 1) := by omega
          rw [toks_tk, hj, e]
          show (sk z 0).bind _ = _
          rw [← toks_tk, toks_moved _ _ _ _ (Nat.le_refl _), toks_fuel (F + 1) (z.length + 1) _ z (by omega) (by omega)]
          congr 1
        | cons a q =>
          rw [toks_tk, hj]
          show tk F (n + (z.length + 1)) (a :: q ++ 10 :: z) = _
          have h : tk f n (a :: q) = some L := h
          rw [tk] at h
          cases ht : token (a :: q) with
          | none => rw [ht] at h; cases h
          | some p =>
            obtain ⟨k, t, r⟩ := p
            obtain ⟨e, he1, he, hel⟩ := token_sub ht
            have h1 := congrArg List.length he
            rw [List.length_drop] at h1
            rw [ht] at h
            have h : (toks f n r).map _ = some L := h
            cases hr : toks f n r with
            | none => rw [hr] at h; cases h
            | some L' =>
              rw [hr] at h
              cases h
              rw [List.cons_append, tk, ← List.cons_append, token_join z ht]
              show (toks F (n + (z.length + 1)) (r ++ 10 :: z)).map _ = _
              rw [ih n r L' (by omega) hr F (by simp at *; omega), Option.map_map]
              congr 1
              funext R
              show (⟨k, t, _, _⟩ : Tok) :: (L' ++ _) = _
              rw [List.cons_append]
              congr 1
              congr 1 <;> (simp only [List.length_append, List.length_cons] at *; omega)

theorem tokens_join (s z : Bs) {L : List Tok} (h : tokens s = some L) : tokens (s ++ 10 :: z) = (tokens z).map fun R => L ++ R.map (moved (s.length + 1)) := by
  unfold tokens at h ⊢
  split at h
  · cases h
  · rename_i h0
    by_cases hz : (0 : UInt8) ∈ z
    · rw [if_pos hz, if_pos (by simp [hz])]; rfl
    · rw [if_neg hz, if_neg (by simp [h0, hz])]
      have := toks_join z _ _ s L (Nat.le_refl _) h ((s ++ 10 :: z).length + 1) (by rw [List.length_append, List.length_cons]; omega)
      rw [← this]
      simp
end Go.Proofs.YtgopajddloeclaaDoor

namespace Go.Proofs.YtgopajddloeclaaDoor

def kt (q : Tok) : UInt8 × Bs := (q.kind, q.text)
/-- The kinds and texts of all tokens. -/
def kts (l : Bs) : Option (List (UInt8 × Bs)) := (toks (l.length + 1) l.length l).map fun L => L.map kt

theorem kts_any (f n : Nat) (l : Bs) (hf : l.length < f) (hn : l.length ≤ n) : (toks f n l).map (fun L => L.map kt) = kts l := by
  unfold kts
  rw [toks_fuel f (l.length + 1) n l hf (by omega), show n = l.length + (n - l.length) by omega, toks_moved _ _ _ _ (Nat.le_refl _), Option.map_map]
  congr 1
  funext L
  simp [Function.comp_def, kt, moved]

theorem kts_step {l : Bs} {a : UInt8} {q : Bs} {k : UInt8} {t r : Bs} (h : sk l 0 = some (a :: q)) (ht : token (a :: q) = some (k, t, r)) : kts l = (kts r).map ((k, t) :: ·) := by
  have h1 : r.length < l.length := by
    obtain ⟨d, hd, hdl⟩ := sk_sub l _ h
    obtain ⟨e, he, hee, hel⟩ := token_sub ht
    have := congrArg List.length hd
    have h2 := congrArg List.length hee
    rw [List.length_drop] at this h2
    omega
  rw [← kts_any l.length l.length r h1 (by omega)]
  show (toks (l.length + 1) l.length l).map _ = _
  rw [toks_step h ht, Option.map_map, Option.map_map]
  rfl

theorem kts_done {l : Bs} (h : sk l 0 = some []) : kts l = some [] := by
  unfold kts
  rw [toks_done h]; rfl

theorem tokens_kts {l : Bs} (h0 : (0 : UInt8) ∉ l) {K : List (UInt8 × Bs)} (h : kts l = some K) : ∃ L, tokens l = some L ∧ L.map kt = K := by
  unfold tokens
  rw [if_neg h0]
  unfold kts at h
  cases ht : toks (l.length + 1) l.length l with
  | none => rw [ht] at h; cases h
  | some L => rw [ht] at h; exact ⟨L, rfl, Option.some.inj h⟩

/-- What stands between marks, each mark in it twice, is read as it was. -/
theorem qt_doubled (mark : UInt8) (rest : Bs) (h : rest.head? ≠ some mark) : ∀ t : Bs, qt mark false (doubled mark t ++ mark :: rest) = some (t, rest) := by
  intro t
  induction t with
  | nil =>
    cases rest with
    | nil => rw [doubled, List.nil_append, qt_one]; simp
    | cons y r =>
      rw [doubled, List.nil_append, qt_two]
      have : y ≠ mark := fun e => h (by rw [e]; rfl)
      simp [this]
  | cons b r ih =>
    by_cases hb : b = mark
    · subst hb
      rw [doubled, if_pos rfl, List.cons_append, List.cons_append, qt_two]
      simp [ih]
    · rw [doubled, if_neg hb, List.cons_append]
      cases hl : doubled mark r ++ mark :: rest with
      | nil => simp at hl
      | cons y q =>
        rw [hl] at ih
        rw [qt_two]
        simp [hb, ih]

theorem token_cons (b : UInt8) (r : Bs) : token (b :: r) = (if (b = 101 ∨ b = 69) ∧ r.head? = some 39 then (qt 39 true r.tail).map fun p => (115, p.1, p.2)
    else if bw b then some (119, ((b :: r).takeWhile inw).map low, (b :: r).dropWhile inw)
    else if b = 34 then (qt 34 false r).bind fun p => if p.1 = [] then none else some (113, p.1, p.2)
    else if b = 39 then (qt 39 false r).map fun p => (115, p.1, p.2)
    else if dg b ∨ b = 46 ∧ dg (r.headD 0) then some (110, (b :: r).take (nl (b :: r)), (b :: r).drop (nl (b :: r)))
    else match tagOf (b :: r) with
      | some t => (find t ((b :: r).drop t.length)).map fun n => (115, ((b :: r).drop t.length).take n, (b :: r).drop (t.length + n + t.length))
      | none => some (111, [b], r) : Option (UInt8 × Bs × Bs)) := rfl
theorem token_text_read (t rest : Bs) (h : rest.head? ≠ some 39) : token (39 :: (doubled 39 t ++ 39 :: rest)) = some (115, t, rest) := by
  rw [token_cons, if_neg (by simp), if_neg (by decide), if_neg (by decide), if_pos rfl, qt_doubled 39 rest h t]; rfl
theorem token_name_read (t rest : Bs) (h0 : t ≠ []) (h : rest.head? ≠ some 34) : token (34 :: (doubled 34 t ++ 34 :: rest)) = some (113, t, rest) := by
  rw [token_cons, if_neg (by simp), if_neg (by decide), if_pos rfl, qt_doubled 34 rest h t]
  show (if t = [] then none else _) = _
  rw [if_neg h0]

theorem takeWhile_run {p : UInt8 → Bool} : ∀ {l rest : Bs}, (∀ c ∈ l, p c = true) → (∀ c, rest.head? = some c → p c = false) → (l ++ rest).takeWhile p = l ∧ (l ++ rest).dropWhile p = rest := by
  intro l rest hl hr
  induction l with
  | nil =>
    cases rest with
    | nil => exact ⟨rfl, rfl⟩
    | cons c r =>
      have := hr c rfl
      rw [List.nil_append, List.takeWhile_cons_of_neg (by simp [this]), List.dropWhile_cons_of_neg (by simp [this])]
      exact ⟨rfl, rfl⟩
  | cons c l ih =>
    have hc := hl c (List.mem_cons_self ..)
    obtain ⟨h1, h2⟩ := ih (fun x hx => hl x (List.mem_cons_of_mem _ hx))
    rw [List.cons_append, List.takeWhile_cons_of_pos hc, List.dropWhile_cons_of_pos hc, h1, h2]
    exact ⟨rfl, rfl⟩

/-- A word of small letters, signs that may be in it, and digits. -/
theorem token_word_read (b : UInt8) (r rest : Bs) (hb : bw b = true) (hl : ∀ c ∈ b :: r, inw c = true ∧ low c = c) (hq : r.head? ≠ some 39) (h39 : rest.head? ≠ some 39) (hr : ∀ c, rest.head? = some c → inw c = false) : token (b :: (r ++ rest)) = some (119, b :: r, rest) := by
  have hh : (r ++ rest).head? ≠ some 39 := by
    cases r with
    | nil => exact h39
    | cons x r => exact hq
  obtain ⟨h1, h2⟩ := takeWhile_run (p := inw) (l := b :: r) (rest := rest) (fun c hc => (hl c hc).1) hr
  rw [List.cons_append] at h1 h2
  rw [token_cons, if_neg (fun e => hh e.2), if_pos hb, h1, h2]
  congr 2
  rw [List.map_congr_left (g := id) (fun c hc => (hl c hc).2), List.map_id]

/-- A sign. -/
theorem token_sign_read (b : UInt8) (r : Bs) (h1 : ¬ (b = 101 ∨ b = 69)) (h2 : bw b = false) (h3 : b ≠ 34) (h4 : b ≠ 39) (h5 : ¬ (dg b = true ∨ b = 46 ∧ dg (r.headD 0) = true)) (h6 : b ≠ 36) : token (b :: r) = some (111, [b], r) := by
  rw [token_cons, if_neg (fun e => h1 e.1), if_neg (by rw [h2]; decide), if_neg h3, if_neg h4, if_neg h5]
  have : tagOf (b :: r) = none := if_neg (fun e => h6 e.1)
  rw [this]
end Go.Proofs.YtgopajddloeclaaDoor

namespace Go.Proofs.YtgopajddloeclaaDoor
open Go.RowKit Go.Lib Go.WideShapes

theorem lowB_facts {c : UInt8} (h : lowB c = true) : bw c = true ∧ inw c = true ∧ low c = c ∧ blank c = false ∧ c ≠ 0 ∧ c ≠ 45 ∧ c ≠ 47 ∧ c ≠ 39 ∧ c ≠ 34 := by
  rw [lowB_nat] at h
  have h : (97 ≤ c.toNat ∧ c.toNat ≤ 122) ∨ c.toNat = 95 := by simpa using h
  have hb : bw c = true := by
    unfold bw
    simp [UInt8.le_iff_toNat_le, ← UInt8.toNat_inj]; omega
  refine ⟨hb, by unfold inw; rw [hb]; rfl, ?_, ?_, ?_, ?_, ?_, ?_, ?_⟩
  · unfold low
    rw [if_neg (by simp [UInt8.le_iff_toNat_le]; omega)]
  · unfold blank; simp [← UInt8.toNat_inj]; omega
  all_goals (intro e; subst e; simp at h)

theorem digB_facts {c : UInt8} (h : digB c = true) : inw c = true ∧ low c = c ∧ c ≠ 39 ∧ c ≠ 0 := by
  rw [digB_nat] at h
  have h : 48 ≤ c.toNat ∧ c.toNat ≤ 57 := by simpa using h
  refine ⟨?_, ?_, ?_, ?_⟩
  · unfold inw dg
    simp [UInt8.le_iff_toNat_le, ← UInt8.toNat_inj]; omega
  · unfold low
    rw [if_neg (by simp [UInt8.le_iff_toNat_le]; omega)]
  all_goals (intro e; subst e; simp at h)

theorem part_facts {l : Bs} (h : partB l = true) : ∀ c ∈ l, inw c = true ∧ low c = c ∧ c ≠ 39 ∧ c ≠ 0 := by
  intro c hc
  rcases partB_mem h c hc with e | e
  · obtain ⟨_, h2, h3, _, h5, _, _, h8, _⟩ := lowB_facts e
    exact ⟨h2, h3, h8, h5⟩
  · exact digB_facts e

/-- What may stand behind an identifier. -/
def Ends (rest : Bs) : Prop := rest.head? ≠ some 39 ∧ rest.head? ≠ some 34 ∧ ∀ c, rest.head? = some c → inw c = false

/-- An identifier is one token: a word or a name. -/
theorem ident_read (s rest : Bs) (h0 : s ≠ []) (hr : Ends rest) : ∃ k a q, (k = 119 ∨ k = 113) ∧ identB s ++ rest = a :: q ∧ sk (a :: q) 0 = some (a :: q) ∧ token (a :: q) = some (k, s, rest) := by
  unfold identB
  cases hp : partB s && !takenB s with
  | true =>
    have hp : partB s = true := by cases h : partB s with
      | true => rfl
      | false => rw [h] at hp; cases hp
    rw [if_pos rfl]
    cases s with
    | nil => exact absurd rfl h0
    | cons b r =>
      have hb : lowB b = true := by
        cases h : lowB b with
        | true => rfl
        | false => rw [partB, h] at hp; cases hp
      obtain ⟨g1, _, _, g4, _, g6, g7, _, _⟩ := lowB_facts hb
      have hq : r.head? ≠ some 39 := by
        cases r with
        | nil => simp
        | cons x r =>
          intro e
          have e : x = 39 := by simpa using e
          exact (part_facts hp x (by simp)).2.2.1 e
      refine ⟨119, b, r ++ rest, .inl rfl, rfl, ?_, token_word_read b r rest g1 (fun c hc => ⟨(part_facts hp c hc).1, (part_facts hp c hc).2.1⟩) hq hr.1 hr.2.2⟩
      exact sk_first g4 (fun e => g6 e.1) (fun e => g7 e.1)
  | false =>
    rw [if_neg (by decide)]
    refine ⟨113, 34, doubled 34 s ++ 34 :: rest, .inr rfl, by unfold quoted; simp, ?_, token_name_read s rest h0 hr.2.1⟩
    exact sk_first (by decide) (fun e => by cases e.1) (fun e => by cases e.1)

/-- A value is one token: a text. -/
theorem literal_read (t rest : Bs) (hr : rest.head? ≠ some 39) : ∃ a q, quoted 39 t ++ rest = a :: q ∧ sk (a :: q) 0 = some (a :: q) ∧ token (a :: q) = some (115, t, rest) := by
  refine ⟨39, doubled 39 t ++ 39 :: rest, by unfold quoted; simp, ?_, token_text_read t rest hr⟩
  exact sk_first (by decide) (fun e => by cases e.1) (fun e => by cases e.1)

theorem doubled_mem {c x : UInt8} : ∀ {l : Bs}, x ∈ doubled c l → x ∈ l := by
  intro l
  induction l with
  | nil => intro h; exact h
  | cons b r ih =>
    intro h
    rw [doubled] at h
    by_cases hb : b = c
    · subst hb
      rw [if_pos rfl] at h
      simp at h
      rcases h with h | h
      · rw [h]; exact List.mem_cons_self ..
      · exact List.mem_cons_of_mem _ (ih h)
    · rw [if_neg hb] at h
      simp at h
      rcases h with h | h
      · rw [h]; exact List.mem_cons_self ..
      · exact List.mem_cons_of_mem _ (ih h)
theorem quoted_mem {c x : UInt8} {l : Bs} (hx : x ≠ c) (h : x ∈ quoted c l) : x ∈ l := by
  unfold quoted at h
  simp at h
  rcases h with h | h | h
  · exact absurd h hx
  · exact doubled_mem h
  · exact absurd h hx
theorem ident_mem {x : UInt8} {l : Bs} (hx : x ≠ 34) (h : x ∈ identB l) : x ∈ l := by
  unfold identB at h
  split at h
  · exact h
  · exact quoted_mem hx h
theorem quoted_length (c : UInt8) (l : Bs) : (quoted c l).length ≤ 2 * l.length + 2 := by
  unfold quoted
  have : (doubled c l).length ≤ 2 * l.length := by
    rw [doubled_length]
    have := List.count_le_length (a := c) (l := l)
    omega
  simp; omega
theorem ident_length (l : Bs) : (identB l).length ≤ 2 * l.length + 2 := by
  unfold identB
  split
  · omega
  · exact quoted_length 34 l

/-- x, an identifier, =, a value, ;y. -/
theorem back_kts (s t : Bs) (h0 : s ≠ []) : ∃ k, (k = 119 ∨ k = 113) ∧ kts (120 :: 32 :: (identB s ++ 61 :: (quoted 39 t ++ [59, 121]))) = some [(119, [120]), (k, s), (111, [61]), (115, t), (111, [59]), (119, [121])] := by
  obtain ⟨k, a, q, hk, hi, hs, ht⟩ := ident_read s (61 :: (quoted 39 t ++ [59, 121])) h0 ⟨by simp, by simp, fun c hc => by simp at hc; subst hc; rfl⟩
  obtain ⟨a2, q2, hl, hs2, ht2⟩ := literal_read t [59, 121] (by simp)
  refine ⟨k, hk, ?_⟩
  rw [hi]
  have e1 : kts (120 :: 32 :: a :: q) = (kts (32 :: a :: q)).map ((119, [120]) :: ·) := kts_step (sk_first (by decide) (fun e => by cases e.1) (fun e => by cases e.1)) (token_word_read 120 [] (32 :: a :: q) (by decide) (fun c hc => by simp at hc; subst hc; exact ⟨rfl, rfl⟩) (by simp) (by simp) (fun c hc => by simp at hc; subst hc; rfl))
  have e2 : kts (32 :: a :: q) = (kts (61 :: (quoted 39 t ++ [59, 121]))).map ((k, s) :: ·) := kts_step (by rw [sk_blank' _ _ (by decide)]; exact hs) ht
  have e3 : kts (61 :: (quoted 39 t ++ [59, 121])) = (kts (quoted 39 t ++ [59, 121])).map ((111, [61]) :: ·) := kts_step (sk_first (by decide) (fun e => by cases e.1) (fun e => by cases e.1)) (token_sign_read 61 _ (by decide) (by decide) (by decide) (by decide) (by intro e; rcases e with e | e; cases e; cases e.1) (by decide))
  have e4 : kts (quoted 39 t ++ [59, 121]) = (kts [59, 121]).map ((115, t) :: ·) := by rw [hl]; exact kts_step hs2 ht2
  have e5 : kts [59, 121] = some [(111, [59]), (119, [121])] := by rfl
  rw [e1, e2, e3, e4, e5]; rfl
end Go.Proofs.YtgopajddloeclaaDoor
