/- What is told of tokens has the same tokens: mathematics. -/
import Derived.Test.YtgopajddloeclaaDoorLPartM
namespace Go.Proofs.YtgopajddloeclaaDoor

theorem qt_zero (mark : UInt8) (esc : Bool) : ∀ (n : Nat) (l t r : Bs), l.length ≤ n → (0 : UInt8) ∉ l → qt mark esc l = some (t, r) → (0 : UInt8) ∉ t := by
  intro n
  induction n with
  | zero => intro l t r hl _ h; obtain rfl := List.length_eq_zero_iff.1 (Nat.le_zero.1 hl); cases h
  | succ n ih =>
    intro l t r hl h0 h
    have mp : ∀ (q : Bs) (c : UInt8), q.length ≤ n → (0 : UInt8) ∉ q → c ≠ 0 → (qt mark esc q).map (fun p => (c :: p.1, p.2)) = some (t, r) → (0 : UInt8) ∉ t := by
      intro q c hq hz hc hm
      cases hr : qt mark esc q with
      | none => rw [hr] at hm; cases hm
      | some p =>
        rw [hr] at hm
        obtain ⟨p1, p2⟩ := p
        simp only [Option.map_some, Option.some.injEq, Prod.mk.injEq] at hm
        obtain ⟨rfl, rfl⟩ := hm
        have := ih q p1 p2 hq hz hr
        intro h
        rcases List.mem_cons.1 h with h | h
        · exact hc h.symm
        · exact this h
    match l, hl, h0, h with
    | [], _, _, h => cases h
    | [x], hl, h0, h =>
      rw [qt_one] at h
      split at h
      · cases h
      split at h
      · cases h; simp
      · cases h
    | x :: y :: q, hl, h0, h =>
      rw [qt_two] at h
      simp only [List.length_cons] at hl
      simp only [List.mem_cons, not_or] at h0
      obtain ⟨hx, hy, hq⟩ := h0
      split at h
      · refine mp q _ (by omega) hq ?_ h
        unfold escd
        split
        · decide
        split
        · decide
        split
        · decide
        · exact fun e => hy e.symm
      split at h
      · split at h
        · exact mp q _ (by omega) hq (fun e => hx e.symm) h
        · cases h; simp
      · exact mp (y :: q) _ (by simp only [List.length_cons]; omega) (by simp only [List.mem_cons, not_or]; exact ⟨hy, hq⟩) (fun e => hx e.symm) h

theorem low_facts : ∀ b : UInt8, low (low b) = low b ∧ inw (low b) = inw b ∧ bw (low b) = bw b ∧ (low b = 0 → b = 0) ∧ (bw b = true → blank b = false ∧ b ≠ 45 ∧ b ≠ 47) ∧ (inw b = true → b ≠ 39) := by
  have h : ∀ n : Fin 256, (fun b : UInt8 => low (low b) = low b ∧ inw (low b) = inw b ∧ bw (low b) = bw b ∧ (low b = 0 → b = 0) ∧ (bw b = true → blank b = false ∧ b ≠ 45 ∧ b ≠ 47) ∧ (inw b = true → b ≠ 39)) (UInt8.ofNat n.val) := by decide +kernel
  intro b
  have := h ⟨b.toNat, b.toNat_lt⟩
  simpa using this
theorem digit_facts : ∀ b : UInt8, (dg b = true ∨ b = 46) → ¬ (b = 101 ∨ b = 69) ∧ bw b = false ∧ b ≠ 34 ∧ b ≠ 39 ∧ blank b = false ∧ b ≠ 45 ∧ b ≠ 47 := by
  have h : ∀ n : Fin 256, (fun b : UInt8 => (dg b = true ∨ b = 46) → ¬ (b = 101 ∨ b = 69) ∧ bw b = false ∧ b ≠ 34 ∧ b ≠ 39 ∧ blank b = false ∧ b ≠ 45 ∧ b ≠ 47) (UInt8.ofNat n.val) := by decide +kernel
  intro b
  have := h ⟨b.toNat, b.toNat_lt⟩
  simpa using this
theorem e_bw (b : UInt8) (h : bw b = false) : ¬ (b = 101 ∨ b = 69) := by
  rintro (rfl | rfl) <;> exact absurd h (by decide)

/-- A number reads the same ahead of a blank. -/
theorem nl_space (z : Bs) : ∀ (n : Nat) (l : Bs), l.length ≤ n → nl (l ++ 32 :: z) = nl l := by
  intro n
  have base : nl (32 :: z) = 0 := by rw [nl_else (by decide), if_neg (by decide)]
  induction n with
  | zero =>
    intro l hl
    have : l = [] := List.length_eq_zero_iff.1 (by omega)
    subst this
    exact base
  | succ n ih =>
    intro l hl
    match l with
    | [] => exact base
    | a :: r =>
      rw [List.length_cons] at hl
      rw [List.cons_append]
      by_cases h : dg a = true ∨ a = 46
      · rw [nl_on h, nl_on h, ih r (by omega)]
      · rw [nl_else h, nl_else h]
        have e1 : ((r ++ 32 :: z).headD 0 = 43 ∨ (r ++ 32 :: z).headD 0 = 45) = (r.headD 0 = 43 ∨ r.headD 0 = 45) := by
          cases r with
          | nil => exact propext ⟨fun e => e.elim (fun (h : (32 : UInt8) = 43) => absurd h (by decide)) (fun (h : (32 : UInt8) = 45) => absurd h (by decide)), fun e => e.elim (fun (h : (0 : UInt8) = 43) => absurd h (by decide)) (fun (h : (0 : UInt8) = 45) => absurd h (by decide))⟩
          | cons => rfl
        have hd : ∀ q : Bs, dg ((q ++ 32 :: z).headD 0) = dg (q.headD 0) := fun q => by cases q <;> rfl
        simp only [e1, hd r]
        split
        · split
          · rename_i h3
            cases r with
            | nil => exact absurd h3 (by decide)
            | cons b r =>
              have e3 : dg ((b :: r ++ 32 :: z).tail.headD 0) = dg ((b :: r).tail.headD 0) := hd r
              rw [e3]
              show (if _ then 2 + nl (r ++ 32 :: z) else 0) = if _ then 2 + nl r else 0
              rw [ih r (by simp at hl; omega)]
          · rw [ih r (by omega)]
        · rfl

/-- What is behind a token that is told: a blank, or nothing. -/
def Ended (rest : Bs) : Prop := rest = [] ∨ ∃ r, rest = 32 :: r
/-- A token that is told reads as it was. -/
def Fine (q : Tok) : Prop := (0 : UInt8) ∉ fieldT q ∧ ∀ rest, Ended rest → ∃ a w, fieldT q ++ rest = a :: w ∧ sk (a :: w) 0 = some (a :: w) ∧ token (a :: w) = some (q.kind, q.text, rest)

theorem Ended.not39 {rest : Bs} (h : Ended rest) (c : UInt8) (hc : c ≠ 32) : rest.head? ≠ some c := by
  rcases h with rfl | ⟨r, rfl⟩
  · intro e; cases e
  · intro e; exact hc (Option.some.inj e).symm

theorem zero_doubled (c : UInt8) (hc : c ≠ 0) : ∀ t : Bs, (0 : UInt8) ∉ t → (0 : UInt8) ∉ doubled c t := by
  intro t
  induction t with
  | nil => intro _ h; cases h
  | cons b r ih =>
    intro h0 h
    simp only [List.mem_cons, not_or] at h0
    rw [doubled] at h
    split at h
    · simp only [List.mem_cons] at h
      rcases h with h | h | h
      · exact hc h.symm
      · exact hc h.symm
      · exact ih h0.2 h
    · simp only [List.mem_cons] at h
      rcases h with h | h
      · exact h0.1 h
      · exact ih h0.2 h
theorem zero_quoted (c : UInt8) (hc : c ≠ 0) (t : Bs) (h0 : (0 : UInt8) ∉ t) : (0 : UInt8) ∉ quoted c t := by
  unfold quoted
  simp only [List.mem_cons, List.mem_append, List.not_mem_nil, or_false, not_or]
  exact ⟨fun e => hc e.symm, zero_doubled c hc t h0, fun e => hc e.symm⟩

theorem sk_plain {a : UInt8} {q : Bs} (h1 : blank a = false) (h2 : a ≠ 45) (h3 : a ≠ 47) : sk (a :: q) 0 = some (a :: q) := sk_first h1 (fun e => h2 e.1) (fun e => h3 e.1)

theorem fine_quote (t : Bs) (lo hi : Nat) (h0 : (0 : UInt8) ∉ t) : Fine ⟨115, t, lo, hi⟩ :=
  ⟨zero_quoted 39 (by decide) t h0, fun rest hr => quoted_read t rest (hr.not39 39 (by decide))⟩
theorem fine_name (t : Bs) (lo hi : Nat) (h0 : (0 : UInt8) ∉ t) (hn : t ≠ []) : Fine ⟨113, t, lo, hi⟩ :=
  ⟨zero_quoted 34 (by decide) t h0, fun rest hr => quoted_name_read t rest hn (hr.not39 34 (by decide))⟩

theorem fine_of {a : UInt8} {l : Bs} {k : UInt8} {t r : Bs} (hs : sk (a :: l) 0 = some (a :: l)) (h : token (a :: l) = some (k, t, r)) (h0 : (0 : UInt8) ∉ a :: l) (lo hi : Nat) : Fine ⟨k, t, lo, hi⟩ := by
  rw [token_cons] at h
  have hb0 : blank a = false := by
    cases hb : blank a with
    | false => rfl
    | true =>
      rw [sk_blank' _ _ hb] at hs
      have := (sk_short _ _ _ _ (Nat.le_refl _) hs).1
      rw [List.length_cons] at this
      omega
  have h0l : (0 : UInt8) ∉ l := fun e => h0 (List.mem_cons_of_mem _ e)
  have viaq : ∀ (mark : UInt8) (esc : Bool) (q : Bs), (0 : UInt8) ∉ q → (qt mark esc q).map (fun p => ((115 : UInt8), p.1, p.2)) = some (k, t, r) → Fine ⟨k, t, lo, hi⟩ := by
    intro mark esc q hq hm
    cases hr : qt mark esc q with
    | none => rw [hr] at hm; cases hm
    | some p =>
      rw [hr] at hm
      obtain ⟨p1, p2⟩ := p
      simp only [Option.map_some, Option.some.injEq, Prod.mk.injEq] at hm
      obtain ⟨rfl, rfl, rfl⟩ := hm
      exact fine_quote _ _ _ (qt_zero mark esc _ q p1 p2 (Nat.le_refl _) hq hr)
  split at h
  · exact viaq 39 true l.tail (fun e => h0l (List.mem_of_mem_tail e)) h
  split at h
  · rename_i hb
    simp only [Option.some.injEq, Prod.mk.injEq] at h
    obtain ⟨rfl, rfl, rfl⟩ := h
    rw [List.takeWhile_cons_of_pos (by unfold inw; rw [hb]; rfl), List.map_cons]
    have hall : ∀ c ∈ l.takeWhile inw, inw c = true := fun c hc => by
      have := List.all_takeWhile (p := inw) (l := l)
      exact List.all_eq_true.1 this c hc
    have hmem : ∀ c ∈ low a :: (l.takeWhile inw).map low, inw c = true ∧ low c = c := by
      intro c hc
      rcases List.mem_cons.1 hc with rfl | hc
      · exact ⟨by rw [(low_facts a).2.1]; unfold inw; rw [hb]; rfl, (low_facts a).1⟩
      · obtain ⟨x, hx, rfl⟩ := List.mem_map.1 hc
        exact ⟨by rw [(low_facts x).2.1]; exact hall x hx, (low_facts x).1⟩
    have hbl : bw (low a) = true := by rw [(low_facts a).2.2.1]; exact hb
    obtain ⟨b1, b2, b3⟩ := (low_facts (low a)).2.2.2.2.1 hbl
    refine ⟨?_, fun rest hr => ⟨low a, (l.takeWhile inw).map low ++ rest, rfl, sk_plain b1 b2 b3, ?_⟩⟩
    · show (0 : UInt8) ∉ low a :: (l.takeWhile inw).map low
      intro e
      rcases List.mem_cons.1 e with e | e
      · exact h0 (by rw [← (low_facts a).2.2.2.1 e.symm]; exact List.mem_cons_self ..)
      · obtain ⟨x, hx, hx0⟩ := List.mem_map.1 e
        have := (low_facts x).2.2.2.1 hx0
        subst this
        exact h0l ((List.takeWhile_prefix inw).subset hx)
    · refine token_word_read _ _ rest hbl hmem ?_ (hr.not39 39 (by decide)) ?_
      · cases hq : (l.takeWhile inw).map low with
        | nil => intro e; cases e
        | cons c q =>
          intro e
          have := (hmem c (by rw [hq]; exact List.mem_cons_of_mem _ (List.mem_cons_self ..))).1
          exact (low_facts c).2.2.2.2.2 this (Option.some.inj e)
      · intro c hc
        rcases hr with rfl | ⟨r, rfl⟩
        · cases hc
        · rw [← Option.some.inj hc]; decide
  rename_i hb
  have hb : bw a = false := by simpa using hb
  split at h
  · cases hr : qt 34 false l with
    | none => rw [hr] at h; cases h
    | some p =>
      rw [hr] at h
      obtain ⟨p1, p2⟩ := p
      simp only [Option.bind_some] at h
      split at h
      · cases h
      · rename_i hp
        simp only [Option.some.injEq, Prod.mk.injEq] at h
        obtain ⟨rfl, rfl, rfl⟩ := h
        exact fine_name _ _ _ (qt_zero 34 false _ l p1 p2 (Nat.le_refl _) h0l hr) hp
  rename_i h34
  split at h
  · exact viaq 39 false l h0l h
  rename_i h39
  split at h
  · rename_i hd
    simp only [Option.some.injEq, Prod.mk.injEq] at h
    obtain ⟨rfl, rfl, rfl⟩ := h
    have hd1 : dg a = true ∨ a = 46 := hd.imp id (·.1)
    obtain ⟨d1, d2, d3, d4, d5, d6, d7⟩ := digit_facts a hd1
    have hpos := nl_pos (r := l) hd1
    have hle := nl_le (a :: l)
    have hn0 : nl (a :: l) = 1 + nl l := nl_on hd1
    have hnl : nl ((a :: l).take (nl (a :: l))) = nl (a :: l) := by
      have e := List.take_append_drop (nl (a :: l)) (a :: l)
      have := nl_cut ((a :: l).drop (nl (a :: l))) _ ((a :: l).take (nl (a :: l))) (Nat.le_refl _) (by rw [e, List.length_take]; omega)
      rw [e] at this
      exact this
    have hlen : ((a :: l).take (nl (a :: l))).length = nl (a :: l) := by rw [List.length_take]; omega
    have htk : (a :: l).take (nl (a :: l)) = a :: l.take (nl l) := by rw [hn0, Nat.add_comm, List.take_succ_cons]
    refine ⟨fun e => h0 (List.mem_of_mem_take e), fun rest hr => ⟨a, l.take (nl l) ++ rest, by show (a :: l).take (nl (a :: l)) ++ rest = _; rw [htk]; rfl, sk_plain d5 d6 d7, ?_⟩⟩
    have hnr : nl (a :: (l.take (nl l) ++ rest)) = nl (a :: l) := by
      rw [← List.cons_append, ← htk]
      rcases hr with rfl | ⟨r, rfl⟩
      · rw [List.append_nil]; exact hnl
      · rw [nl_space r _ _ (Nat.le_refl _)]; exact hnl
    have hd2 : dg a = true ∨ a = 46 ∧ dg ((l.take (nl l) ++ rest).headD 0) = true := by
      refine hd.imp id fun e => ⟨e.1, headD_cut _ _ dg (by decide) ?_⟩
      cases l with
      | nil => exact absurd e.2 (by decide)
      | cons x l =>
        have : nl (x :: l) = 1 + nl l := nl_on (.inl e.2)
        rw [this, Nat.add_comm, List.take_succ_cons]
        exact e.2
    rw [token_cons, if_neg (fun e => d1 e.1), if_neg (by rw [d2]; decide), if_neg d3, if_neg d4, if_pos hd2, hnr, ← List.cons_append, ← htk]
    show some (_, _, _) = some (_, _, _)
    rw [List.take_left' hlen, List.drop_left' hlen]
  rename_i hd
  split at h
  · rename_i tg htg
    cases hr : find tg ((a :: l).drop tg.length) with
    | none => rw [hr] at h; cases h
    | some n =>
      rw [hr] at h
      simp only [Option.map_some, Option.some.injEq, Prod.mk.injEq] at h
      obtain ⟨rfl, rfl, rfl⟩ := h
      exact fine_quote _ _ _ (fun e => h0 (List.mem_of_mem_drop (List.mem_of_mem_take e)))
  · simp only [Option.some.injEq, Prod.mk.injEq] at h
    obtain ⟨rfl, rfl, rfl⟩ := h
    refine ⟨fun e => h0 (by rw [List.mem_singleton.1 e]; exact List.mem_cons_self ..), fun rest hr => ⟨a, rest, rfl, sk_first hb0 ?_ ?_, ?_⟩⟩
    · rintro ⟨_, e⟩
      rcases hr with rfl | ⟨r, rfl⟩
      · cases e
      · exact absurd (Option.some.inj e) (by decide)
    · rintro ⟨_, e⟩
      rcases hr with rfl | ⟨r, rfl⟩
      · cases e
      · exact absurd (Option.some.inj e) (by decide)
    · have hdr : dg (rest.headD 0) = false := by
        rcases hr with rfl | ⟨r, rfl⟩ <;> rfl
      have htag : tagOf (a :: rest) = none := by
        rcases hr with rfl | ⟨r, rfl⟩
        · exact if_neg (fun e => by have := e.2; rw [List.drop_nil] at this; cases this)
        · refine if_neg (fun e => ?_)
          have := e.2
          rw [show tagBody (32 :: r) = [] from by rw [tagBody, if_neg (by decide)]] at this
          exact absurd (Option.some.inj this) (by decide)
      rw [token_cons, if_neg (fun e => e_bw a hb e.1), if_neg (by rw [hb]; decide), if_neg h34, if_neg h39, if_neg (fun e => hd (e.imp id fun e => by rw [hdr] at e; exact absurd e.2 (by decide))), htag]

theorem toks_fine : ∀ (f n : Nat) (l : Bs) (ts : List Tok), (0 : UInt8) ∉ l → toks f n l = some ts → ∀ q ∈ ts, Fine q := by
  intro f
  induction f with
  | zero => intro n l ts _ h; cases h
  | succ f ih =>
    intro n l ts h0 h q hq
    cases ts with
    | nil => cases hq
    | cons x X =>
      obtain ⟨g, p, a, w, r', hg, hr, hs, ht, h1, h2, h3⟩ := toks_at h
      obtain rfl : f = g := by omega
      have h0a : (0 : UInt8) ∉ a :: w := fun e => h0 (by rw [hr]; exact List.mem_append.2 (.inr e))
      obtain ⟨e, he1, he, hel⟩ := token_sub ht
      rcases List.mem_cons.1 hq with rfl | hq
      · exact fine_of (sk_idem _ _ _ _ _ (Nat.le_refl _) hs) ht h0a q.lo q.hi
      · exact ih n r' X (by rw [he]; exact fun e' => h0a (List.mem_of_mem_drop e')) h3 q hq

theorem flat_ended (T : List Tok) : Ended (T.flatMap fun q => 32 :: fieldT q) := by
  cases T with
  | nil => exact .inl rfl
  | cons t T => exact .inr ⟨_, rfl⟩
theorem flat_kts : ∀ T : List Tok, (∀ q ∈ T, Fine q) → kts (T.flatMap fun q => 32 :: fieldT q) = some (T.map kt) := by
  intro T
  induction T with
  | nil => intro _; rfl
  | cons t T ih =>
    intro h
    rw [List.flatMap_cons, List.cons_append, kts_blank 32 _ (by decide)]
    obtain ⟨a, w, e1, e2, e3⟩ := (h t (List.mem_cons_self ..)).2 _ (flat_ended T)
    rw [e1, kts_step e2 e3, ih (fun q hq => h q (List.mem_cons_of_mem _ hq))]
    rfl
theorem fields_kts : ∀ T : List Tok, (∀ q ∈ T, Fine q) → kts (fieldsB T) = some (T.map kt) ∧ (0 : UInt8) ∉ fieldsB T := by
  intro T h
  cases T with
  | nil => exact ⟨rfl, by simp [fieldsB]⟩
  | cons t T =>
    constructor
    · rw [fieldsB]
      obtain ⟨a, w, e1, e2, e3⟩ := (h t (List.mem_cons_self ..)).2 _ (flat_ended T)
      rw [e1, kts_step e2 e3, flat_kts T (fun q hq => h q (List.mem_cons_of_mem _ hq))]
      rfl
    · rw [fieldsB]
      intro e
      rcases List.mem_append.1 e with e | e
      · exact (h t (List.mem_cons_self ..)).1 e
      · obtain ⟨q, hq, e⟩ := List.mem_flatMap.1 e
        rcases List.mem_cons.1 e with e | e
        · exact absurd e (by decide)
        · exact (h q (List.mem_cons_of_mem _ hq)).1 e

/-- What is told of a text's tokens has the same tokens. -/
theorem tokens_again {s : Bs} {T : List Tok} (h : tokens s = some T) : ∃ K, tokens (fieldsB T) = some K ∧ K.map kt = T.map kt := by
  have hf : ∀ q ∈ T, Fine q := by
    unfold tokens at h
    split at h
    · cases h
    · rename_i h0
      exact toks_fine _ _ _ _ h0 h
  obtain ⟨h1, h2⟩ := fields_kts T hf
  exact tokens_kts h2 h1

/-- A token stands behind the one ahead of it; between them there is none; cut out it is the one that is there. -/
theorem token_place {s : Bs} {T : List Tok} (h : tokens s = some T) {k : Nat} {x : Tok} (hx : T[k]? = some x) : x.lo < x.hi ∧ x.hi ≤ s.length ∧ lastHi 0 (T.take k) ≤ x.lo ∧ tokens ((s.drop (lastHi 0 (T.take k))).take (x.lo - lastHi 0 (T.take k))) = some [] ∧ lastHi 0 (T.take (k + 1)) = x.hi ∧
    ∃ q, tokens ((s.drop x.lo).take (x.hi - x.lo)) = some [q] ∧ kt q = kt x := by
  have hk := (List.getElem?_eq_some_iff.1 hx).1
  have hT : T = T.take k ++ [x] ++ T.drop (k + 1) := by
    have e1 := List.take_append_drop (k + 1) T
    rw [List.take_add_one, hx] at e1
    exact e1.symm
  rw [hT] at h
  obtain ⟨e1, e2, e3, e4, X0, e5, e6⟩ := tokens_part h
  have hl : lastHi 0 (T.take (k + 1)) = x.hi := by
    rw [List.take_add_one, hx]
    unfold lastHi
    show (((T.take k ++ [x]).getLast?).map Tok.hi).getD 0 = _
    rw [List.getLast?_concat]; rfl
  refine ⟨e1, e2, e3, e4, hl, ?_⟩
  have hl0 := congrArg List.length e6
  rw [List.length_map] at hl0
  cases X0 with
  | nil => cases e6
  | cons q Q =>
    cases Q with
    | cons q' Q => simp at hl0
    | nil =>
      refine ⟨q, e5, ?_⟩
      have := List.head_eq_of_cons_eq e6
      rw [← this]; rfl
end Go.Proofs.YtgopajddloeclaaDoor
