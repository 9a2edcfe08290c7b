/- A text with signs, blanks and comments around it, and one with other letters great: mathematics. -/
import Derived.Test.YtgopajddloeclaaDoorZ23
import Derived.Test.YtgopajddloeclaaDoorLEndM
import Derived.Test.YtgopajddloeclaaDoorLAgainM
namespace Go.Proofs.YtgopajddloeclaaDoor
open Go.RowKit Go.Lib Go.WideShapes

/-- What has no end has none with more behind it, if that ends nothing. -/
theorem qt_more {z : Bs} (hz : Clean (10 :: z)) (mark : UInt8) (hm : mark = 39 ∨ mark = 34) (esc : Bool) : ∀ (n : Nat) (l : Bs), l.length ≤ n → qt mark esc l = none → qt mark esc (l ++ 10 :: z) = none := by
  have hmz : mark ∉ 10 :: z := fun h => by
    have := hz mark h
    rcases hm with rfl | rfl
    · exact this.1 rfl
    · exact this.2.1 rfl
  have h92 : (92 : UInt8) ∉ 10 :: z := fun h => (hz 92 h).2.2.2.2 rfl
  have hz0 : qt mark esc (10 :: z) = none := qt_none mark esc _ _ (Nat.le_refl _) hmz (fun _ => h92)
  have hz1 : qt mark esc z = none := qt_none mark esc _ _ (Nat.le_refl _) (fun h => hmz (List.mem_cons_of_mem _ h)) (fun _ h => h92 (List.mem_cons_of_mem _ h))
  intro n
  induction n with
  | zero => intro l hl _; obtain rfl := List.length_eq_zero_iff.1 (Nat.le_zero.1 hl); exact hz0
  | succ n ih =>
    intro l hl h
    match l, hl, h with
    | [], _, _ => exact hz0
    | [x], _, h =>
      rw [qt_one] at h
      show qt mark esc (x :: 10 :: z) = none
      rw [qt_two]
      by_cases h1 : esc = true ∧ x = 92
      · rw [if_pos h1, hz1]; rfl
      · rw [if_neg h1] at h ⊢
        by_cases h2 : x = mark
        · rw [if_pos h2] at h; cases h
        · rw [if_neg h2, hz0]; rfl
    | x :: y :: q, hl, h =>
      simp only [List.length_cons] at hl
      have none_map : ∀ (q : Bs) (c : UInt8), (qt mark esc q).map (fun p => (c :: p.1, p.2)) = none → qt mark esc q = none := fun q c hm => by
        cases hq : qt mark esc q with
        | none => rfl
        | some p => rw [hq] at hm; cases hm
      rw [qt_two] at h
      show qt mark esc (x :: y :: (q ++ 10 :: z)) = none
      rw [qt_two]
      by_cases h1 : esc = true ∧ x = 92
      · rw [if_pos h1] at h ⊢
        rw [ih q (by omega) (none_map _ _ h)]; rfl
      · rw [if_neg h1] at h ⊢
        by_cases h2 : x = mark
        · rw [if_pos h2] at h ⊢
          by_cases h3 : y = mark
          · rw [if_pos h3] at h ⊢
            rw [ih q (by omega) (none_map _ _ h)]; rfl
          · rw [if_neg h3] at h; cases h
        · rw [if_neg h2] at h ⊢
          have := ih (y :: q) (by simp only [List.length_cons]; omega) (none_map _ _ h)
          rw [List.cons_append] at this
          rw [this]; rfl

theorem sk_zero_two (a b : UInt8) (r : Bs) : sk (a :: b :: r) 0 = if blank a then sk (b :: r) 0 else if a = 45 ∧ b = 45 then sk r 1 else if a = 47 ∧ b = 42 then sk r 3 else some (a :: b :: r) := rfl
theorem sk_in_two (a b : UInt8) (r : Bs) (d : Nat) : sk (a :: b :: r) (d + 2) = if a = 47 ∧ b = 42 then (if d + 1 ≤ 8 then sk r (d + 3) else none) else if a = 42 ∧ b = 47 then (if d = 1 then sk r 0 else sk r (d + 1)) else sk (b :: r) (d + 2) := rfl
theorem sk_more {z : Bs} (hz : Clean (10 :: z)) : ∀ (n : Nat) (l : Bs) (m : Nat), l.length ≤ n → sk l m = none → sk (l ++ 10 :: z) m = none := by
  have h42 : (42 : UInt8) ∉ 10 :: z := fun h => (hz 42 h).2.2.2.1 rfl
  intro n
  induction n with
  | zero =>
    intro l m hl h
    obtain rfl := List.length_eq_zero_iff.1 (Nat.le_zero.1 hl)
    match m, h with
    | 0, h => cases h
    | 1, h => cases h
    | d + 2, _ => exact sk_none _ d h42
  | succ n ih =>
    intro l m hl h
    match l, hl, h with
    | [], _, h =>
      match m, h with
      | 0, h => cases h
      | 1, h => cases h
      | d + 2, _ => exact sk_none _ d h42
    | [a], _, h =>
      match m, h with
      | 0, h =>
        have : sk [a] 0 = if blank a then sk [] 0 else some [a] := rfl
        rw [this] at h
        split at h <;> cases h
      | 1, h =>
        rw [sk_line'] at h
        split at h <;> cases h
      | d + 2, _ =>
        show sk (a :: 10 :: z) (d + 2) = none
        rw [sk_in_two, if_neg (fun e => by cases e.2), if_neg (fun e => by cases e.2)]
        exact sk_none _ d h42
    | a :: b :: r, hl, h =>
      simp only [List.length_cons] at hl
      match m, h with
      | 0, h =>
        rw [sk_zero_two] at h
        show sk (a :: b :: (r ++ 10 :: z)) 0 = none
        rw [sk_zero_two]
        by_cases h1 : blank a = true
        · rw [if_pos h1] at h ⊢
          exact ih (b :: r) 0 (by simp only [List.length_cons]; omega) h
        · rw [if_neg h1] at h ⊢
          by_cases h2 : a = 45 ∧ b = 45
          · rw [if_pos h2] at h ⊢
            exact ih r 1 (by omega) h
          · rw [if_neg h2] at h ⊢
            by_cases h3 : a = 47 ∧ b = 42
            · rw [if_pos h3] at h ⊢
              exact ih r 3 (by omega) h
            · rw [if_neg h3] at h; cases h
      | 1, h =>
        rw [sk_line'] at h
        show sk (a :: ((b :: r) ++ 10 :: z)) 1 = none
        rw [sk_line']
        split at h
        · rename_i h1; rw [if_pos h1]; exact ih (b :: r) 0 (by simp only [List.length_cons]; omega) h
        · rename_i h1; rw [if_neg h1]; exact ih (b :: r) 1 (by simp only [List.length_cons]; omega) h
      | d + 2, h =>
        rw [sk_in_two] at h
        show sk (a :: b :: (r ++ 10 :: z)) (d + 2) = none
        rw [sk_in_two]
        by_cases h1 : a = 47 ∧ b = 42
        · rw [if_pos h1] at h ⊢
          by_cases h2 : d + 1 ≤ 8
          · rw [if_pos h2] at h ⊢
            exact ih r (d + 3) (by omega) h
          · rw [if_neg h2]
        · rw [if_neg h1] at h ⊢
          by_cases h2 : a = 42 ∧ b = 47
          · rw [if_pos h2] at h ⊢
            by_cases h3 : d = 1
            · rw [if_pos h3] at h ⊢; exact ih r 0 (by omega) h
            · rw [if_neg h3] at h ⊢; exact ih r (d + 1) (by omega) h
          · rw [if_neg h2] at h ⊢
            exact ih (b :: r) (d + 2) (by simp only [List.length_cons]; omega) h

theorem find_more {z u : Bs} (hz : (36 : UInt8) ∉ z) : ∀ l : Bs, find (36 :: (u ++ [36])) l = none → find (36 :: (u ++ [36])) (l ++ z) = none := by
  intro l
  induction l with
  | nil => intro _; exact find_none _ z hz
  | cons a r ih =>
    intro h
    have he : ∀ q, find (36 :: (u ++ [36])) (a :: q) = if (36 :: (u ++ [36])).isPrefixOf (a :: q) then some 0 else (find (36 :: (u ++ [36])) q).map (· + 1) := fun q => rfl
    rw [he] at h
    rw [List.cons_append, he]
    by_cases h1 : (36 :: (u ++ [36])).isPrefixOf (a :: r) = true
    · rw [if_pos h1] at h; cases h
    · rw [if_neg h1] at h
      have hr : find (36 :: (u ++ [36])) r = none := by
        cases hf : find (36 :: (u ++ [36])) r with
        | none => rfl
        | some x => rw [hf] at h; cases h
      rw [if_neg, ih hr]; rfl
      intro h2
      by_cases hl : (36 :: (u ++ [36])).length ≤ (a :: r).length
      · have h2' : (36 :: (u ++ [36])).isPrefixOf ((a :: r) ++ z) = true := h2
        rw [prefix_join _ _ _ hl] at h2'
        exact h1 h2'
      · have h2' : (36 :: (u ++ [36])).isPrefixOf ((a :: r) ++ z) = true := h2
        rw [List.isPrefixOf_iff_prefix] at h2'
        obtain ⟨y, hy⟩ := h2'
        have hlen := hl
        simp only [List.length_cons, List.length_append, List.length_nil] at hlen
        have e1 : ((36 :: (u ++ [36])) ++ y)[u.length + 1]? = some 36 := by
          rw [List.cons_append, List.getElem?_cons_succ, List.append_assoc, List.getElem?_append_right (Nat.le_refl _), Nat.sub_self]; rfl
        rw [hy, List.getElem?_append_right (by simp only [List.length_cons]; omega)] at e1
        exact hz (List.mem_of_getElem? e1)

theorem tag_form {l t : Bs} (h : tagOf l = some t) : ∃ u, t = 36 :: (u ++ [36]) := by
  cases l with
  | nil => cases h
  | cons a r =>
    rw [tagOf] at h
    split at h
    · exact ⟨tagBody r, (Option.some.inj h).symm⟩
    · cases h

theorem token_more {z : Bs} (hz : Clean (10 :: z)) {b : UInt8} {r : Bs} (h : token (b :: r) = none) : token ((b :: r) ++ 10 :: z) = none := by
  have hcl : ∀ mark esc (q : Bs) (c : UInt8), (mark = 39 ∨ mark = 34) → (qt mark esc q).map (fun p => (c, p.1, p.2)) = none → (qt mark esc (q ++ 10 :: z)).map (fun p => (c, p.1, p.2)) = none := by
    intro mark esc q c hm hq
    have : qt mark esc q = none := by
      cases hx : qt mark esc q with
      | none => rfl
      | some p => rw [hx] at hq; cases hq
    rw [qt_more hz mark hm esc _ q (Nat.le_refl _) this]; rfl
  rw [token_cons] at h
  rw [List.cons_append, token_cons]
  have hh : (r ++ 10 :: z).head? = some 39 ↔ r.head? = some 39 := by
    cases r with
    | nil => exact ⟨(fun e => by cases e), (fun e => by cases e)⟩
    | cons x r => exact Iff.rfl
  by_cases h1 : (b = 101 ∨ b = 69) ∧ r.head? = some 39
  · rw [if_pos h1] at h
    rw [if_pos ⟨h1.1, hh.2 h1.2⟩]
    cases r with
    | nil => cases h1.2
    | cons x r => exact hcl 39 true r 115 (.inl rfl) h
  · rw [if_neg h1] at h
    rw [if_neg (fun e => h1 ⟨e.1, hh.1 e.2⟩)]
    by_cases h2 : bw b = true
    · rw [if_pos h2] at h; cases h
    · rw [if_neg h2] at h ⊢
      by_cases h3 : b = 34
      · rw [if_pos h3] at h ⊢
        cases hq : qt 34 false r with
        | none => rw [qt_more hz 34 (.inr rfl) false _ r (Nat.le_refl _) hq]; rfl
        | some p =>
          rw [hq] at h
          obtain ⟨p1, p2⟩ := p
          rw [qt_join z 34 (by decide) false _ r p1 p2 (Nat.le_refl _) hq]
          simp only [Option.bind_some] at h ⊢
          split at h
          · rename_i hp; rw [if_pos hp]
          · cases h
      · rw [if_neg h3] at h ⊢
        by_cases h4 : b = 39
        · rw [if_pos h4] at h ⊢
          exact hcl 39 false r 115 (.inl rfl) h
        · rw [if_neg h4] at h ⊢
          by_cases h5 : dg b = true ∨ b = 46 ∧ dg (r.headD 0) = true
          · rw [if_pos h5] at h; cases h
          · rw [if_neg h5] at h
            rw [if_neg (by rw [headD_join r z dg (by decide) (by decide)]; exact h5)]
            rw [show b :: (r ++ 10 :: z) = (b :: r) ++ 10 :: z from rfl, tag_join (b :: r) z (by simp)]
            cases ht : tagOf (b :: r) with
            | none => rw [ht] at h; cases h
            | some t =>
              rw [ht] at h
              obtain ⟨u, rfl⟩ := tag_form ht
              have hf : find (36 :: (u ++ [36])) ((b :: r).drop (36 :: (u ++ [36])).length) = none := by
                cases hx : find (36 :: (u ++ [36])) ((b :: r).drop (36 :: (u ++ [36])).length) with
                | none => rfl
                | some x => simp only [hx] at h; cases h
              have hm := find_more (z := 10 :: z) (u := u) (fun e => (hz 36 e).2.2.1 rfl) _ hf
              have hdl : (36 :: (u ++ [36])).length ≤ (b :: r).length := by
                rw [tagOf] at ht
                split at ht
                · rename_i hc
                  have e := Option.some.inj ht
                  have e2 : tagBody r = u := by
                    have := (List.cons.inj e).2
                    exact (List.append_inj_left' this rfl)
                  have hlt : (tagBody r).length < r.length := by
                    have := hc.2
                    cases hx : r.drop (tagBody r).length with
                    | nil => rw [hx] at this; cases this
                    | cons y ys =>
                      have := congrArg List.length hx
                      rw [List.length_drop, List.length_cons] at this
                      omega
                  rw [e2] at hlt
                  simp only [List.length_cons, List.length_append, List.length_nil]
                  omega
                · cases ht
              show (find _ (((b :: r) ++ 10 :: z).drop _)).map _ = none
              rw [List.drop_append_of_le_length hdl, hm]; rfl

theorem kts_more {z : Bs} (hz : Clean (10 :: z)) : ∀ (n : Nat) (l : Bs), l.length ≤ n → kts l = none → kts (l ++ 10 :: z) = none := by
  have knone : ∀ l : Bs, sk l 0 = none → kts l = none := fun l h => by unfold kts; rw [toks, h]; rfl
  have tnone : ∀ (l : Bs) a q, sk l 0 = some (a :: q) → token (a :: q) = none → kts l = none := fun l a q h ht => by unfold kts; rw [toks, h]; simp only [ht]; rfl
  intro n
  induction n with
  | zero => intro l hl h; obtain rfl := List.length_eq_zero_iff.1 (Nat.le_zero.1 hl); cases h
  | succ n ih =>
    intro l hl h
    cases hs : sk l 0 with
    | none => exact knone _ (sk_more hz _ l 0 (Nat.le_refl _) hs)
    | some q =>
      have hj := sk_join z _ l 0 q (Nat.le_refl _) hs
      cases q with
      | nil => rw [kts_done hs] at h; cases h
      | cons a q =>
        cases ht : token (a :: q) with
        | none => exact tnone _ a (q ++ 10 :: z) hj (token_more hz ht)
        | some x =>
          obtain ⟨k, t, r⟩ := x
          rw [kts_step hs ht] at h
          have hr : kts r = none := by
            cases hx : kts r with
            | none => rfl
            | some y => rw [hx] at h; cases h
          have hlt : r.length ≤ n := by
            obtain ⟨d, hd, hdl⟩ := sk_sub l _ hs
            obtain ⟨e, he, hee, hel⟩ := token_sub ht
            have := congrArg List.length hd
            have h2 := congrArg List.length hee
            rw [List.length_drop] at this h2
            omega
          rw [kts_step (r := r ++ 10 :: z) hj (token_join z ht), ih r hlt hr]; rfl
theorem tokens_more {z s : Bs} (hz : Clean (10 :: z)) (h : tokens s = none) : tokens (s ++ 10 :: z) = none := by
  unfold tokens at h ⊢
  by_cases h0 : (0 : UInt8) ∈ s
  · rw [if_pos (List.mem_append_left _ h0)]
  · rw [if_neg h0] at h
    have hk : kts s = none := by unfold kts; rw [h]; rfl
    have hm := kts_more hz _ s (Nat.le_refl _) hk
    unfold kts at hm
    split
    · rfl
    · cases hx : toks ((s ++ 10 :: z).length + 1) (s ++ 10 :: z).length (s ++ 10 :: z) with
      | none => rfl
      | some L => rw [hx] at hm; cases hm

/-- The tokens' places say nothing of what is asked for. -/
theorem semiAt_zt : ∀ T : List Tok, semiAt (T.map zt) = semiAt T := by
  intro T
  induction T with
  | nil => rfl
  | cons t T ih => rw [List.map_cons, semiAt_cons, semiAt_cons, ih]; rfl
theorem splits_zt : ∀ (n : Nat) (T : List Tok), T.length ≤ n → splits (T.map zt) = (splits T).map (List.map zt) := by
  intro n
  induction n with
  | zero => intro T h; obtain rfl := List.length_eq_zero_iff.1 (Nat.le_zero.1 h); rfl
  | succ n ih =>
    intro T h
    by_cases h0 : T = []
    · subst h0; rfl
    · have hp : 0 < T.length := List.length_pos_iff.2 h0
      rw [splits_step (R := T.map zt) (by simpa using h0), splits_step h0, semiAt_zt, List.length_map, ← List.map_take, ← List.map_drop, ih _ (by rw [List.length_drop]; omega), List.map_append]
      split <;> rfl
theorem parsed_zt (T : List Tok) : parsedT (T.map zt) = parsedT T := by
  unfold parsedT
  rw [splits_zt _ T (Nat.le_refl _)]
  match splits T with
  | [] => rfl
  | [x] => exact z_of x
  | x :: y :: r => rfl
theorem parsed_kt {T U : List Tok} (h : T.map kt = U.map kt) : parsedT T = parsedT U := by
  rw [← parsed_zt T, ← parsed_zt U, zt_kt, zt_kt, h]

/-- The text with what changes nothing around it. -/
theorem again_tokens (s : Bs) : (tokens s = none → tokens (32 :: 47 :: 42 :: 32 :: 120 :: 32 :: 42 :: 47 :: 10 :: (s ++ [10, 59, 32, 59, 45, 45])) = none) ∧
    ∀ T, tokens s = some T → ∃ U, tokens (32 :: 47 :: 42 :: 32 :: 120 :: 32 :: 42 :: 47 :: 10 :: (s ++ [10, 59, 32, 59, 45, 45])) = some U ∧ parsedT U = parsedT T := by
  have hh : tokens (32 :: 47 :: 42 :: 32 :: 120 :: 32 :: 42 :: 47 :: 10 :: (s ++ [10, 59, 32, 59, 45, 45])) = (tokens (s ++ [10, 59, 32, 59, 45, 45])).map fun R => R.map (moved 9) := by
    have := tokens_join [32, 47, 42, 32, 120, 32, 42, 47] (s ++ [10, 59, 32, 59, 45, 45]) (L := []) (by rfl)
    exact this
  have hz : Clean [10, 59, 32, 59, 45, 45] := by
    intro b hb
    simp only [List.mem_cons, List.not_mem_nil, or_false] at hb
    rcases hb with rfl | rfl | rfl | rfl | rfl | rfl <;> decide
  constructor
  · intro h
    rw [hh, tokens_more hz h]; rfl
  · intro T hT
    have hj := tokens_join s [59, 32, 59, 45, 45] hT
    rw [show tokens [59, 32, 59, 45, 45] = some [⟨111, [59], 0, 1⟩, ⟨111, [59], 2, 3⟩] from rfl] at hj
    rw [hh, hj]
    refine ⟨_, rfl, ?_⟩
    rw [parsed_kt (T := (T ++ ([⟨111, [59], 0, 1⟩, ⟨111, [59], 2, 3⟩] : List Tok).map (moved (s.length + 1))).map (moved 9)) (U := T ++ ([⟨111, [59], 0, 1⟩, ⟨111, [59], 2, 3⟩] : List Tok).map (moved (s.length + 1))) (by rw [List.map_map]; rfl)]
    unfold parsedT
    rw [splits_then T _ (fun q hq => by
      obtain ⟨x, hx, rfl⟩ := List.mem_map.1 hq
      simp only [List.mem_cons, List.not_mem_nil, or_false] at hx
      rcases hx with rfl | rfl <;> rfl)]

/-- A letter great or not. -/
def Up (c' c : UInt8) : Prop := c' = c ∨ (97 ≤ c ∧ c ≤ 122 ∧ c' = c - 32)
theorem up_facts : ∀ c : UInt8, 97 ≤ c ∧ c ≤ 122 → low (c - 32) = low c ∧ bw (c - 32) = bw c ∧ inw (c - 32) = inw c ∧ c - 32 ≠ 0 ∧ c - 32 ≠ 39 ∧ blank (c - 32) = false ∧ c - 32 ≠ 45 ∧ c - 32 ≠ 47 := by
  have h : ∀ n : Fin 256, (fun c : UInt8 => 97 ≤ c ∧ c ≤ 122 → low (c - 32) = low c ∧ bw (c - 32) = bw c ∧ inw (c - 32) = inw c ∧ c - 32 ≠ 0 ∧ c - 32 ≠ 39 ∧ blank (c - 32) = false ∧ c - 32 ≠ 45 ∧ c - 32 ≠ 47) (UInt8.ofNat n.val) := by decide +kernel
  intro b
  have := h ⟨b.toNat, b.toNat_lt⟩
  simpa using this
theorem Up.low {c' c : UInt8} (h : Up c' c) : low c' = low c := by
  rcases h with rfl | ⟨h1, h2, rfl⟩
  · rfl
  · exact (up_facts c ⟨h1, h2⟩).1
theorem Up.bw {c' c : UInt8} (h : Up c' c) : bw c' = bw c := by
  rcases h with rfl | ⟨h1, h2, rfl⟩
  · rfl
  · exact (up_facts c ⟨h1, h2⟩).2.1
theorem Up.inw {c' c : UInt8} (h : Up c' c) : inw c' = inw c := by
  rcases h with rfl | ⟨h1, h2, rfl⟩
  · rfl
  · exact (up_facts c ⟨h1, h2⟩).2.2.1
theorem Up.zero {c' c : UInt8} (h : Up c' c) (h0 : c' = 0) : c = 0 := by
  rcases h with rfl | ⟨h1, h2, rfl⟩
  · exact h0
  · exact absurd h0 (up_facts c ⟨h1, h2⟩).2.2.2.1

/-- A text with other letters great. -/
def Ups (t' t : Bs) : Prop := t'.length = t.length ∧ ∀ (i : Nat) (c' c : UInt8), t'[i]? = some c' → t[i]? = some c → Up c' c
theorem Ups.cons {c' c : UInt8} {t' t : Bs} (h : Ups (c' :: t') (c :: t)) : Up c' c ∧ Ups t' t :=
  ⟨h.2 0 c' c rfl rfl, by have := h.1; simpa using this, fun i a b ha hb => h.2 (i + 1) a b ha hb⟩
theorem Ups.facts : ∀ {t' t : Bs}, Ups t' t → t'.map low = t.map low ∧ ((∀ c ∈ t, inw c = true) → ∀ c ∈ t', inw c = true) ∧ ((0 : UInt8) ∉ t → (0 : UInt8) ∉ t') := by
  intro t'
  induction t' with
  | nil =>
    intro t h
    cases t with
    | nil => exact ⟨rfl, fun h => h, fun h => h⟩
    | cons c t => have := h.1; simp at this
  | cons c' t' ih =>
    intro t h
    cases t with
    | nil => have := h.1; simp at this
    | cons c t =>
      obtain ⟨hu, hr⟩ := h.cons
      obtain ⟨e1, e2, e3⟩ := ih hr
      refine ⟨by rw [List.map_cons, List.map_cons, hu.low, e1], fun hi x hx => ?_, fun h0 hx => ?_⟩
      · rcases List.mem_cons.1 hx with rfl | hx
        · rw [hu.inw]; exact hi c (List.mem_cons_self ..)
        · exact e2 (fun y hy => hi y (List.mem_cons_of_mem _ hy)) x hx
      · rcases List.mem_cons.1 hx with hx | hx
        · exact h0 (by rw [hu.zero hx.symm]; exact List.mem_cons_self ..)
        · exact e3 (fun hy => h0 (List.mem_cons_of_mem _ hy)) hx

/-- A word that was scanned. -/
theorem word_form {t : Bs} {lo hi : Nat} (h : Fine ⟨119, t, lo, hi⟩) : ∃ b r, t = b :: r ∧ bw b = true ∧ (∀ c ∈ b :: r, inw c = true) ∧ (b :: r).map low = b :: r ∧ (0 : UInt8) ∉ b :: r := by
  obtain ⟨h0, hr⟩ := h
  obtain ⟨a, w, e1, _, ht⟩ := hr [] (.inl rfl)
  have e1 : t ++ [] = a :: w := e1
  rw [List.append_nil] at e1
  subst e1
  have h0 : (0 : UInt8) ∉ a :: w := h0
  rw [token_cons] at ht
  have no : ∀ {o : Option (Bs × Bs)}, o.map (fun p => ((115 : UInt8), p.1, p.2)) ≠ some (119, a :: w, []) := fun {o} e => by
    cases o with
    | none => cases e
    | some p => have := congrArg Prod.fst (Option.some.inj e); cases this
  split at ht
  · exact absurd ht no
  split at ht
  · rename_i hb
    simp only [Option.some.injEq, Prod.mk.injEq, true_and] at ht
    obtain ⟨ht1, ht2⟩ := ht
    have hall : (a :: w).takeWhile inw = a :: w := by
      have := List.takeWhile_append_dropWhile (p := inw) (l := a :: w)
      rw [ht2, List.append_nil] at this
      exact this
    rw [hall] at ht1
    refine ⟨a, w, rfl, hb, fun c hc => ?_, ht1, h0⟩
    have := List.all_takeWhile (p := inw) (l := a :: w)
    rw [hall] at this
    exact List.all_eq_true.1 this c hc
  split at ht
  · cases hq : qt 34 false w with
    | none => rw [hq] at ht; cases ht
    | some p =>
      rw [hq] at ht
      simp only [Option.bind_some] at ht
      split at ht
      · cases ht
      · have := congrArg Prod.fst (Option.some.inj ht); cases this
  split at ht
  · exact absurd ht no
  split at ht
  · have := congrArg Prod.fst (Option.some.inj ht); cases this
  split at ht
  · rename_i tg _
    cases hf : find tg ((a :: w).drop tg.length) with
    | none => rw [hf] at ht; cases ht
    | some n => rw [hf] at ht; have := congrArg Prod.fst (Option.some.inj ht); cases this
  · have := congrArg Prod.fst (Option.some.inj ht); cases this

/-- A token that is told reads as another one. -/
def FineAs (q : Tok) (x : UInt8 × Bs) : Prop := (0 : UInt8) ∉ fieldT q ∧ ∀ rest, Ended rest → ∃ a w, fieldT q ++ rest = a :: w ∧ sk (a :: w) 0 = some (a :: w) ∧ token (a :: w) = some (x.1, x.2, rest)
theorem fine_great {t t' : Bs} {lo hi : Nat} (h : Fine ⟨119, t, lo, hi⟩) (hu : Ups t' t) : FineAs ⟨119, t', lo, hi⟩ (119, t) := by
  obtain ⟨b, r, rfl, hb, hi, hl, h0⟩ := word_form h
  obtain ⟨e1, e2, e3⟩ := hu.facts
  cases t' with
  | nil => have := hu.1; simp at this
  | cons b' r' =>
    have hb' : bw b' = true := by rw [(hu.cons).1.bw]; exact hb
    have hi' := e2 hi
    obtain ⟨f1, f2, f3⟩ := (low_facts b').2.2.2.2.1 hb'
    refine ⟨e3 h0, fun rest hr => ⟨b', r' ++ rest, rfl, sk_plain f1 f2 f3, ?_⟩⟩
    obtain ⟨g1, g2⟩ := takeWhile_run (p := inw) (l := b' :: r') (rest := rest) hi' (fun c hc => by
      rcases hr with rfl | ⟨q, rfl⟩
      · cases hc
      · rw [← Option.some.inj hc]; decide)
    rw [List.cons_append] at g1 g2
    have hh : (r' ++ rest).head? ≠ some 39 := by
      cases r' with
      | nil => exact hr.not39 39 (by decide)
      | cons x r' =>
        intro e
        exact (low_facts x).2.2.2.2.2 (hi' x (by simp)) (Option.some.inj e)
    rw [token_cons, if_neg (fun e => hh e.2), if_pos hb', g1, g2, e1, hl]
theorem flat_as : ∀ (T : List Tok) (K : List (UInt8 × Bs)), T.length = K.length → (∀ (i : Nat) (q : Tok) (x : UInt8 × Bs), T[i]? = some q → K[i]? = some x → FineAs q x) → kts (T.flatMap fun q => 32 :: fieldT q) = some K := by
  intro T
  induction T with
  | nil => intro K hl _; obtain rfl := List.length_eq_zero_iff.1 hl.symm; rfl
  | cons t T ih =>
    intro K hl h
    cases K with
    | nil => cases hl
    | cons x K =>
      rw [List.flatMap_cons, List.cons_append, kts_blank 32 _ (by decide)]
      obtain ⟨a, w, e1, e2, e3⟩ := (h 0 t x rfl rfl).2 _ (flat_ended T)
      rw [e1, kts_step e2 e3, ih K (by simpa using hl) (fun i q y hq hy => h (i + 1) q y hq hy)]
      rfl
theorem fields_as (T : List Tok) (K : List (UInt8 × Bs)) (hl : T.length = K.length) (h : ∀ (i : Nat) (q : Tok) (x : UInt8 × Bs), T[i]? = some q → K[i]? = some x → FineAs q x) : kts (fieldsB T) = some K ∧ (0 : UInt8) ∉ fieldsB T := by
  cases T with
  | nil => obtain rfl := List.length_eq_zero_iff.1 hl.symm; exact ⟨rfl, by simp [fieldsB]⟩
  | cons t T =>
    cases K with
    | nil => cases hl
    | cons x K =>
      constructor
      · rw [fieldsB]
        obtain ⟨a, w, e1, e2, e3⟩ := (h 0 t x rfl rfl).2 _ (flat_ended T)
        rw [e1, kts_step e2 e3, flat_as T K (by simpa using hl) (fun i q y hq hy => h (i + 1) q y hq hy)]
        rfl
      · rw [fieldsB]
        intro e
        rcases List.mem_append.1 e with e | e
        · exact (h 0 t x rfl rfl).1 e
        · obtain ⟨q, hq, e⟩ := List.mem_flatMap.1 e
          rcases List.mem_cons.1 e with e | e
          · exact absurd e (by decide)
          · obtain ⟨i, hi, rfl⟩ := List.mem_iff_getElem.1 hq
            have hk : i < K.length := by simp at hl; omega
            exact (h (i + 1) T[i] K[i] (by rw [List.getElem?_cons_succ, List.getElem?_eq_getElem hi]) (by rw [List.getElem?_cons_succ, List.getElem?_eq_getElem hk])).1 e

/-- Tokens whose words have other letters great. -/
def Great (U T : List Tok) : Prop := U.length = T.length ∧ ∀ (i : Nat) (u t : Tok), U[i]? = some u → T[i]? = some t → u.kind = t.kind ∧ (u.kind ≠ 119 → u.text = t.text) ∧ (u.kind = 119 → Ups u.text t.text)
theorem great_parsed {s : Bs} {T U : List Tok} (hT : tokens s = some T) (hU : Great U T) : ∃ V, tokens (fieldsB U) = some V ∧ parsedT V = parsedT T := by
  have hf : ∀ q ∈ T, Fine q := by
    unfold tokens at hT
    split at hT
    · cases hT
    · rename_i h0
      exact toks_fine _ _ _ _ h0 hT
  obtain ⟨h1, h2⟩ := fields_as U (T.map kt) (by rw [List.length_map]; exact hU.1) (fun i q x hq hx => by
    rw [List.getElem?_map] at hx
    cases ht : T[i]? with
    | none => rw [ht] at hx; cases hx
    | some t =>
      rw [ht] at hx
      obtain rfl := Option.some.inj hx
      have hfine := hf t (List.mem_of_getElem? ht)
      obtain ⟨g1, g2, g3⟩ := hU.2 i q t hq ht
      by_cases hk : q.kind = 119
      · obtain ⟨qk, qt, ql, qh⟩ := q
        obtain ⟨tk, tt, tl, th⟩ := t
        simp only at g1 g3 hk
        subst hk; subst g1
        exact fine_great (lo := ql) (hi := qh) hfine (g3 rfl)
      · have e1 := g2 hk
        obtain ⟨qk, qt, ql, qh⟩ := q
        obtain ⟨tk, tt, tl, th⟩ := t
        simp only at g1 e1
        subst g1; subst e1
        exact hfine)
  obtain ⟨V, hV, hm⟩ := tokens_kts h2 h1
  exact ⟨V, hV, parsed_kt hm⟩
end Go.Proofs.YtgopajddloeclaaDoor
