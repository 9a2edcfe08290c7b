/- Names taken of what was scanned: mathematics. -/
import Derived.Test.YtpijolcklmdjbaaDoorNReadM
import Derived.Test.YtpijolcklmdjbaaDoorNTake
namespace Go.Proofs.YtpijolcklmdjbaaDoor
open Go.RowKit Go.Lib Go.WideShapes

theorem kts_tokens {l : Bs} {L : List Tok} (h : tokens l = some L) : kts l = some (L.map kt) := by
  unfold tokens at h
  split at h
  · cases h
  · unfold kts; rw [h]; rfl

theorem qt_length (mark : UInt8) (esc : Bool) : ∀ (n : Nat) (l t r : Bs), l.length ≤ n → qt mark esc l = some (t, r) → t.length ≤ l.length := by
  intro n
  induction n with
  | zero =>
    intro l t r hl h
    obtain rfl : l = [] := List.length_eq_zero_iff.1 (by omega)
    cases h
  | succ n ih =>
    intro l t r hl h
    match l, hl, h with
    | [], _, h => cases h
    | [x], _, h =>
      rw [qt_one] at h
      split at h
      · cases h
      · split at h
        · cases h; simp
        · rw [show qt mark esc [] = none from rfl] at h; cases h
    | x :: y :: q, hl, h =>
      rw [qt_two] at h
      split at h
      · cases hq : qt mark esc q with
        | none => rw [hq] at h; cases h
        | some p =>
          obtain ⟨p1, p2⟩ := p
          rw [hq] at h; cases h
          have := ih q p1 p2 (by simp at hl; omega) hq
          simp; omega
      · split at h
        · split at h
          · cases hq : qt mark esc q with
            | none => rw [hq] at h; cases h
            | some p =>
              obtain ⟨p1, p2⟩ := p
              rw [hq] at h; cases h
              have := ih q p1 p2 (by simp at hl; omega) hq
              simp; omega
          · cases h; simp
        · cases hq : qt mark esc (y :: q) with
          | none => rw [hq] at h; cases h
          | some p =>
            obtain ⟨p1, p2⟩ := p
            rw [hq] at h; cases h
            have := ih (y :: q) p1 p2 (by simp at hl ⊢; omega) hq
            simp at this ⊢; omega

theorem takeWhile_length (p : UInt8 → Bool) (l : Bs) : (l.takeWhile p).length ≤ l.length := (List.takeWhile_prefix p).length_le

theorem token_length {l : Bs} {k : UInt8} {t r : Bs} (h : token l = some (k, t, r)) : t.length ≤ l.length := by
  cases l with
  | nil => cases h
  | cons b q =>
    rw [token_cons] at h
    split at h
    · cases hq : qt 39 true q.tail with
      | none => rw [hq] at h; cases h
      | some p =>
        obtain ⟨p1, p2⟩ := p
        rw [hq] at h; cases h
        have := qt_length 39 true _ _ _ _ (Nat.le_refl _) hq
        rw [List.length_tail] at this
        show p1.length ≤ _
        rw [List.length_cons]; omega
    · split at h
      · cases h
        rw [List.length_map]
        exact takeWhile_length _ _
      · split at h
        · cases hq : qt 34 false q with
          | none => rw [hq] at h; cases h
          | some p =>
            obtain ⟨p1, p2⟩ := p
            rw [hq] at h
            have := qt_length 34 false _ _ _ _ (Nat.le_refl _) hq
            have h : (if p1 = [] then none else some (113, p1, p2)) = some (k, t, r) := h
            split at h
            · cases h
            · cases h; rw [List.length_cons]; omega
        · split at h
          · cases hq : qt 39 false q with
            | none => rw [hq] at h; cases h
            | some p =>
              obtain ⟨p1, p2⟩ := p
              rw [hq] at h; cases h
              have := qt_length 39 false _ _ _ _ (Nat.le_refl _) hq
              show p1.length ≤ _
              rw [List.length_cons]; omega
          · split at h
            · cases h; rw [List.length_take]; omega
            · cases ht : tagOf (b :: q) with
              | none => rw [ht] at h; cases h; simp
              | some tg =>
                rw [ht] at h
                have h : (find tg ((b :: q).drop tg.length)).map _ = some (k, t, r) := h
                cases hf : find tg ((b :: q).drop tg.length) with
                | none => rw [hf] at h; cases h
                | some n =>
                  rw [hf] at h; cases h
                  rw [List.length_take, List.length_drop]; omega

theorem toks_texts : ∀ (f n : Nat) (l : Bs) (L : List Tok), toks f n l = some L → ∀ q ∈ L, q.text.length ≤ l.length := by
  intro f
  induction f with
  | zero => intro n l L h; cases h
  | succ f ih =>
    intro n l L h
    rw [toks_tk] at h
    cases hs : sk l 0 with
    | none => rw [hs] at h; cases h
    | some q =>
      rw [hs] at h
      obtain ⟨j, hj, hjl⟩ := sk_sub l q hs
      have h0 := congrArg List.length hj
      rw [List.length_drop] at h0
      cases q with
      | nil => cases h; intro q hq; cases hq
      | cons a q =>
        have h : tk f n (a :: q) = some L := h
        rw [tk] at h
        cases ht : token (a :: q) with
        | none => rw [ht] at h; cases h
        | some p =>
          obtain ⟨k, t, r⟩ := p
          obtain ⟨e, he1, he, hel⟩ := token_sub ht
          have h1 := congrArg List.length he
          rw [List.length_drop] at h1
          rw [ht] at h
          have h : (toks f n r).map _ = some L := h
          cases hr : toks f n r with
          | none => rw [hr] at h; cases h
          | some ts' =>
            rw [hr] at h
            cases h
            intro x hx
            rcases List.mem_cons.1 hx with rfl | hx
            · have := token_length ht
              show t.length ≤ l.length
              omega
            · have := ih n r ts' hr x hx; omega

theorem tokens_texts {l : Bs} {L : List Tok} (h : tokens l = some L) : ∀ q ∈ L, q.text.length ≤ l.length := by
  unfold tokens at h
  split at h
  · cases h
  · exact toks_texts _ _ _ _ h

theorem kts_some {l r : Bs} {x : UInt8 × Bs} {K : List (UInt8 × Bs)} (h : kts l = (kts r).map (x :: ·)) (hl : kts l = some K) : ∃ K', kts r = some K' ∧ K = x :: K' := by
  rw [h] at hl
  cases hr : kts r with
  | none => rw [hr] at hl; cases hl
  | some K' => rw [hr] at hl; exact ⟨K', rfl, (Option.some.inj hl).symm⟩

theorem part_low {l : Bs} (h : partB l = true) : foldB l = l := by
  unfold foldB
  rw [List.map_congr_left (g := id) (fun c hc => (part_facts h c hc).2.1), List.map_id]
theorem cut_back {l : Bs} (h : (46 : UInt8) ∈ l) : ∃ a b, l = a ++ 46 :: b ∧ (46 : UInt8) ∉ a := by
  induction l with
  | nil => cases h
  | cons x r ih =>
    by_cases hx : x = 46
    · subst hx; exact ⟨[], r, rfl, by simp⟩
    · rcases List.mem_cons.1 h with e | e
      · exact absurd e.symm hx
      · obtain ⟨a, b, rfl, hn⟩ := ih e
        exact ⟨x :: a, b, rfl, by simp [hn]; exact fun e => hx e.symm⟩
theorem good_low {l : Bs} (h : goodB l = true) : foldB l = l := by
  by_cases hd : (46 : UInt8) ∈ l
  · obtain ⟨a, b, rfl, hn⟩ := cut_back hd
    rw [goodB_two hn] at h
    simp only [Bool.and_eq_true] at h
    have e1 := part_low h.2.1
    have e2 := part_low h.2.2
    unfold foldB at e1 e2 ⊢
    rw [List.map_append, List.map_cons, e1, e2]; rfl
  · rw [goodB_one hd] at h
    simp only [Bool.and_eq_true] at h
    exact part_low h.2
theorem good_some' {l : Bs} (h : goodB l = true) : l ≠ [] := fun e => by subst e; exact absurd h (by decide)
/-- Three names of which one is of the other two. -/
theorem good_parts {a b : Bs} (ha : goodB a = true) (hab : goodB (a ++ 46 :: b) = true) : partB a = true ∧ partB b = true := by
  by_cases hd : (46 : UInt8) ∈ a
  · obtain ⟨x, y, rfl, hn⟩ := cut_back hd
    rw [show x ++ 46 :: y ++ 46 :: b = x ++ 46 :: (y ++ 46 :: b) by simp, goodB_two hn, partB_dot (y ++ 46 :: b) (by simp)] at hab
    simp at hab
  · rw [goodB_two hd] at hab
    simp only [Bool.and_eq_true] at hab
    exact ⟨hab.2.1, hab.2.2⟩

theorem takeB_cases (T : List Tok) : takeB T = ([], 0) ∨ ∃ x n, takeB T = (x, n) ∧ goodB x = true ∧ n ≠ 0 := by
  unfold takeB
  cases hh : nmHead T && goodB (takes T).1 with
  | false => exact .inl rfl
  | true =>
    rw [if_pos rfl]
    rw [Bool.and_eq_true] at hh
    refine .inr ⟨(takes T).1, (takes T).2, rfl, hh.2, ?_⟩
    match T, hh.1 with
    | [t], _ => simp [takes]
    | [t, u], _ => simp [takes]
    | t :: u :: v :: r, _ => rw [takes_three]; split <;> simp

/-- What stands as a word or a name, and behind it something that is no point. -/
theorem take_one {L : List Tok} {k : UInt8} {a : Bs} {K : List (UInt8 × Bs)} (hk : k = 119 ∨ k = 113) (ha : goodB a = true) (h : L.map kt = (k, a) :: (111, [61]) :: K) : takeB L = (a, 1) := by
  match L, h with
  | q0 :: q1 :: L', h =>
    simp only [List.map_cons, List.cons.injEq, kt, Prod.mk.injEq] at h
    obtain ⟨⟨e0, e1⟩, ⟨e2, e3⟩, _⟩ := h
    have hn : nm q0 = true := by unfold nm; rw [e0]; rcases hk with rfl | rfl <;> rfl
    have ht : takes (q0 :: q1 :: L') = (a, 1) := by
      cases L' with
      | nil => show (foldB q0.text, 1) = _; rw [e1, good_low ha]
      | cons v r => rw [takes_short1 (.inr (.inl (by rw [e3]; rfl))), e1, good_low ha]
    rw [takeB_yes hn ht, ha]; rfl
theorem take_both {L : List Tok} {k k' : UInt8} {a b : Bs} {K : List (UInt8 × Bs)} (hk : k = 119 ∨ k = 113) (hk' : k' = 119 ∨ k' = 113) (hpa : partB a = true) (hpb : partB b = true) (hab : goodB (a ++ 46 :: b) = true) (h : L.map kt = (k, a) :: (111, [46]) :: (k', b) :: K) : takeB L = (a ++ 46 :: b, 3) := by
  match L, h with
  | [_, _], h => simp at h
  | q0 :: q1 :: q2 :: L', h =>
    simp only [List.map_cons, List.cons.injEq, kt, Prod.mk.injEq] at h
    obtain ⟨⟨e0, e1⟩, ⟨e2, e3⟩, ⟨e4, e5⟩, _⟩ := h
    have hn : nm q0 = true := by unfold nm; rw [e0]; rcases hk with rfl | rfl <;> rfl
    have hn2 : nm q2 = true := by unfold nm; rw [e4]; rcases hk' with rfl | rfl <;> rfl
    rw [takeB_yes hn (takes_long (by rw [e2]; rfl) (by rw [e3]; rfl) hn2), e1, e5, part_low hpa, part_low hpb, hab]; rfl

/-- An identifier, and = behind it. -/
theorem read_one {a more : Bs} {L : List Tok} (ha : goodB a = true) (h : tokens (identB a ++ 32 :: 61 :: 32 :: more) = some L) : takeB L = (a, 1) := by
  obtain ⟨k, x, q, hk, hi, hs, ht⟩ := ident_read a (32 :: 61 :: 32 :: more) (good_some' ha) ⟨by simp, by simp, fun c hc => by simp at hc; subst hc; rfl⟩
  have hK := kts_tokens h
  rw [hi] at hK
  obtain ⟨K1, h1, e1⟩ := kts_some (kts_step hs ht) hK
  obtain ⟨K2, _, e2⟩ := kts_some (kts_step (a := 61) (q := 32 :: more) (by rw [sk_blank' _ _ (by decide)]; exact sk_first (by decide) (fun e => by cases e.1) (fun e => by cases e.1)) (token_sign_read 61 _ (by decide) (by decide) (by decide) (by decide) (by intro e; rcases e with e | e; cases e; cases e.1) (by decide))) h1
  exact take_one hk ha (by rw [e1, e2])
/-- An identifier, a point, an identifier, and = behind it. -/
theorem read_both {a b more : Bs} {L : List Tok} (ha : goodB a = true) (hab : goodB (a ++ 46 :: b) = true) (h : tokens (identB a ++ 32 :: 46 :: 32 :: (identB b ++ 32 :: 61 :: 32 :: more)) = some L) : takeB L = (a ++ 46 :: b, 3) := by
  obtain ⟨hpa, hpb⟩ := good_parts ha hab
  obtain ⟨k, x, q, hk, hi, hs, ht⟩ := ident_read a (32 :: 46 :: 32 :: (identB b ++ 32 :: 61 :: 32 :: more)) (good_some' ha) ⟨by simp, by simp, fun c hc => by simp at hc; subst hc; rfl⟩
  obtain ⟨k', x', q', hk', hi', hs', ht'⟩ := ident_read b (32 :: 61 :: 32 :: more) (fun e => by rw [e] at hpb; cases hpb) ⟨by simp, by simp, fun c hc => by simp at hc; subst hc; rfl⟩
  have hK := kts_tokens h
  rw [hi] at hK
  obtain ⟨K1, h1, e1⟩ := kts_some (kts_step hs ht) hK
  obtain ⟨K2, h2, e2⟩ := kts_some (kts_step (a := 46) (q := 32 :: (identB b ++ 32 :: 61 :: 32 :: more)) (by rw [sk_blank' _ _ (by decide)]; exact sk_first (by decide) (fun e => by cases e.1) (fun e => by cases e.1)) (token_sign_read 46 _ (by decide) (by decide) (by decide) (by decide) (by intro e; rcases e with e | e; cases e; cases e.2) (by decide))) h1
  rw [hi'] at h2
  obtain ⟨K3, _, e3⟩ := kts_some (kts_step (by rw [sk_blank' _ _ (by decide)]; exact hs') ht') h2
  exact take_both hk hk' hpa hpb hab (by rw [e1, e2, e3])
end Go.Proofs.YtpijolcklmdjbaaDoor
