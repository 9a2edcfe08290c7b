/- Contracts and mathematics: NumM, JoinM, Kts. -/
import Derived.Test.YtpijolcklmdjbaaGreatDoorZ10
import Derived.Test.YtpijolcklmdjbaaGreatDoorZ4
namespace Go.Proofs.YtpijolcklmdjbaaGreatDoor

theorem toks_step {f n : Nat} {l : Bs} {a : UInt8} {q : Bs} {k : UInt8} {t r : Bs} (h : sk l 0 = some (a :: q)) (ht : token (a :: q) = some (k, t, r)) : toks (f + 1) n l = (toks f n r).map (⟨k, t, n - (a :: q).length, n - r.length⟩ :: ·) := by
  rw [toks_tk, h]
  show tk f n (a :: q) = _
  rw [tk, ht]
theorem toks_done {f n : Nat} {l : Bs} (h : sk l 0 = some []) : toks (f + 1) n l = some [] := by rw [toks_tk, h]; rfl

theorem dg_facts {c : UInt8} (h : dg c = true) : bw c = false ∧ c ≠ 101 ∧ c ≠ 69 ∧ c ≠ 34 ∧ c ≠ 39 ∧ c ≠ 45 ∧ c ≠ 47 ∧ c ≠ 43 ∧ blank c = false ∧ c ≠ 36 := by
  have h2 : 48 ≤ c.toNat ∧ c.toNat ≤ 57 := by simpa [dg, UInt8.le_iff_toNat_le] using h
  have hne : ∀ d : UInt8, (d.toNat < 48 ∨ 57 < d.toNat) → c ≠ d := fun d hd e => by subst e; omega
  refine ⟨?_, hne _ (by decide), hne _ (by decide), hne _ (by decide), hne _ (by decide), hne _ (by decide), hne _ (by decide), hne _ (by decide), ?_, hne _ (by decide)⟩
  · rw [← Bool.not_eq_true]
    simp [bw, UInt8.le_iff_toNat_le, ← UInt8.toNat_inj]
    omega
  · rw [← Bool.not_eq_true]
    simp [blank, ← UInt8.toNat_inj]
    omega

theorem tok_num {c : UInt8} {r : Bs} (h : dg c = true) : token (c :: r) = some (110, (c :: r).take (nl (c :: r)), (c :: r).drop (nl (c :: r))) := by
  obtain ⟨h1, h2, h3, h4, h5, _⟩ := dg_facts h
  rw [token, if_neg (fun e => e.1.elim h2 h3), if_neg (by rw [h1]; simp), if_neg h4, if_neg h5, if_pos (.inl h)]

theorem tok_sign {c : UInt8} {r : Bs} (h1 : bw c = false) (h2 : c ≠ 34) (h3 : c ≠ 39) (h4 : dg c = false) (h5 : ¬ (c = 46 ∧ dg (r.headD 0) = true)) (h6 : c ≠ 36) : token (c :: r) = some (111, [c], r) := by
  have e : tagOf (c :: r) = none := by rw [tagOf, if_neg (fun e => h6 e.1)]
  rw [token, if_neg (fun e => by rcases e.1 with rfl | rfl <;> exact absurd h1 (by decide)), if_neg (by rw [h1]; simp), if_neg h2, if_neg h3, if_neg (fun e => e.elim (fun h => by rw [h4] at h; cases h) h5), e]

theorem sk_first {x : UInt8} {r : Bs} (h0 : blank x = false) (h1 : ¬ (x = 45 ∧ r.head? = some 45)) (h2 : ¬ (x = 47 ∧ r.head? = some 42)) : sk (x :: r) 0 = some (x :: r) := by
  refine sk_here h0 ?_ ?_
  · rw [← Bool.not_eq_true]
    intro h
    cases r with
    | nil => simp [List.isPrefixOf] at h
    | cons y r => simp [List.isPrefixOf] at h; exact h1 ⟨h.1.symm, by simp [h.2]⟩
  · rw [← Bool.not_eq_true]
    intro h
    cases r with
    | nil => simp [List.isPrefixOf] at h
    | cons y r => simp [List.isPrefixOf] at h; exact h2 ⟨h.1.symm, by simp [h.2]⟩

theorem nl_e {a c : UInt8} {r : Bs} (ha : a = 101 ∨ a = 69) (hc : dg c = true) : nl (a :: c :: r) = 1 + nl (c :: r) := by
  have hf := dg_facts hc
  rw [nl_else (by rcases ha with rfl | rfl <;> decide), if_pos ha, if_neg (show ¬ ((c :: r).headD 0 = 43 ∨ (c :: r).headD 0 = 45) from fun e => e.elim hf.2.2.2.2.2.2.2.1 hf.2.2.2.2.2.1), if_pos (show dg ((c :: r).headD 0) = true from hc)]

theorem nl_e_sign {a b c : UInt8} {r : Bs} (ha : a = 101 ∨ a = 69) (hb : b = 43 ∨ b = 45) (hc : dg c = true) : nl (a :: b :: c :: r) = 2 + nl (c :: r) := by
  rw [nl_else (by rcases ha with rfl | rfl <;> decide), if_pos ha, if_pos (show (b :: c :: r).headD 0 = 43 ∨ (b :: c :: r).headD 0 = 45 from hb), if_pos (show dg ((b :: c :: r).tail.headD 0) = true from hc)]
  rfl

theorem nl_run (d r : Bs) (h : ∀ c ∈ d, dg c = true ∨ c = 46) : nl (d ++ r) = d.length + nl r := by
  induction d with
  | nil => simp
  | cons c d ih =>
    rw [List.cons_append, nl_on (h c (by simp)), ih (fun c hc => h c (by simp [hc])), List.length_cons]
    omega

/-- What the law writes as a number. -/
def Num (N : Bs) : Prop := ∃ da db P : Bs, N = da ++ (46 :: (db ++ P)) ∧ (da ≠ [] ∧ ∀ c ∈ da, dg c = true) ∧ (∀ c ∈ db, dg c = true) ∧ (P = [] ∨ ∃ dc : Bs, (dc ≠ [] ∧ ∀ c ∈ dc, dg c = true) ∧ (P = 101 :: dc ∨ P = 69 :: 45 :: dc))

theorem nl_tail : nl [45, 46, 120] = 0 := by
  rw [nl_else (by decide), if_neg (by decide)]

theorem nl_num {N : Bs} (h : Num N) : nl (N ++ [45, 46, 120]) = N.length := by
  obtain ⟨da, db, P, rfl, ⟨_, h1⟩, h2, h3⟩ := h
  have e : (da ++ 46 :: (db ++ P)) ++ [45, 46, 120] = (da ++ 46 :: db) ++ (P ++ [45, 46, 120]) := by simp
  rw [e, nl_run _ _ (by
    intro c hc
    rcases List.mem_append.1 hc with hc | hc
    · exact .inl (h1 c hc)
    · rcases List.mem_cons.1 hc with rfl | hc
      · exact .inr rfl
      · exact .inl (h2 c hc))]
  have hP : nl (P ++ [45, 46, 120]) = P.length := by
    rcases h3 with rfl | ⟨dc, ⟨hne, h4⟩, rfl | rfl⟩
    · exact nl_tail
    · obtain ⟨c, d, rfl⟩ := List.exists_cons_of_ne_nil hne
      have := nl_run (c :: d) [45, 46, 120] (fun x hx => .inl (h4 x hx))
      rw [List.cons_append] at this
      rw [List.cons_append, List.cons_append, nl_e (.inl rfl) (h4 c (by simp)), this, nl_tail]
      simp; omega
    · obtain ⟨c, d, rfl⟩ := List.exists_cons_of_ne_nil hne
      have := nl_run (c :: d) [45, 46, 120] (fun x hx => .inl (h4 x hx))
      rw [List.cons_append] at this
      rw [List.cons_append, List.cons_append, List.cons_append, nl_e_sign (.inr rfl) (.inr rfl) (h4 c (by simp)), this, nl_tail]
      simp; omega
  rw [hP]
  simp; omega

theorem num_tokens {N : Bs} (h : Num N) : ∃ a1 a2 a3 a4 a5 b1 b2 b3 b4 b5, tokens (45 :: (N ++ [45, 46, 120])) = some [⟨111, [45], a1, b1⟩, ⟨110, N, a2, b2⟩, ⟨111, [45], a3, b3⟩, ⟨111, [46], a4, b4⟩, ⟨119, [120], a5, b5⟩] := by
  have hnl := nl_num h
  have hcon : ∃ c q, N = c :: q ∧ dg c = true := by
    obtain ⟨da, db, P, rfl, ⟨hne, h1⟩, _⟩ := h
    obtain ⟨c, d, rfl⟩ := List.exists_cons_of_ne_nil hne
    exact ⟨c, _, rfl, h1 c (by simp)⟩
  have h0 : (0 : UInt8) ∉ 45 :: (N ++ [45, 46, 120]) := by
    obtain ⟨da, db, P, rfl, ⟨hne, h1⟩, h2, h3⟩ := h
    have hz : ∀ d : Bs, (∀ c ∈ d, dg c = true) → (0 : UInt8) ∉ d := fun d hd hm => absurd (hd 0 hm) (by decide)
    have hzP : (0 : UInt8) ∉ P := by
      rcases h3 with rfl | ⟨dc, ⟨_, h4⟩, rfl | rfl⟩
      · simp
      · have := hz dc h4; simp [this]
      · have := hz dc h4; simp [this]
    have := hz da h1
    have := hz db h2
    simp [*]
  obtain ⟨c, q, rfl, hc⟩ := hcon
  obtain ⟨hb1, _, _, _, _, h45, h47, _, hbl, _⟩ := dg_facts hc
  obtain ⟨F, hF⟩ : ∃ F, (45 :: ((c :: q) ++ [45, 46, 120])).length = F + 5 := ⟨q.length, by simp⟩
  rw [tokens, if_neg h0, hF]
  rw [toks_step (sk_first (by decide) (fun e => h45 (by simpa using e.2)) (fun e => absurd e.1 (by decide))) (tok_sign (by decide) (by decide) (by decide) (by decide) (fun e => absurd e.1 (by decide)) (by decide))]
  have t2 : token ((c :: q) ++ [45, 46, 120]) = some (110, c :: q, [45, 46, 120]) := by
    rw [List.cons_append, tok_num hc, ← List.cons_append, hnl, List.take_left, List.drop_left]
  have s2 : sk ((c :: q) ++ [45, 46, 120]) 0 = some ((c :: q) ++ [45, 46, 120]) := by
    rw [List.cons_append]
    exact sk_first hbl (fun e => h45 e.1) (fun e => h47 e.1)
  rw [List.cons_append] at t2 s2
  rw [List.cons_append, toks_step s2 t2]
  rw [toks_step (a := 45) (q := [46, 120]) (k := 111) (t := [45]) (r := [46, 120]) (by rfl) (by rfl)]
  rw [toks_step (a := 46) (q := [120]) (k := 111) (t := [46]) (r := [120]) (by rfl) (by rfl)]
  rw [toks_step (a := 120) (q := []) (k := 119) (t := [120]) (r := []) (by rfl) (by rfl)]
  rw [toks_done (by rfl)]
  exact ⟨_, _, _, _, _, _, _, _, _, _, rfl⟩
end Go.Proofs.YtpijolcklmdjbaaGreatDoor

namespace Go.Proofs.YtpijolcklmdjbaaGreatDoor

def joined (z : Bs) : Bs → Option Bs
  | [] => sk z 0
  | a :: q => some (a :: q ++ 10 :: z)

theorem sk_blank' (a : UInt8) (q : Bs) (h : blank a = true) : sk (a :: q) 0 = sk q 0 := by
  cases q with
  | nil => show (if blank a then sk [] 0 else some [a]) = _; rw [if_pos h]
  | cons b q => rw [sk, if_pos h]
theorem sk_line' (a : UInt8) (q : Bs) : sk (a :: q) 1 = if a = 10 then sk q 0 else sk q 1 := by cases q <;> rfl

theorem sk_join (z : Bs) : ∀ (n : Nat) (l : Bs) (m : Nat) (r : Bs), l.length ≤ n → sk l m = some r → sk (l ++ 10 :: z) m = joined z r := by
  intro n
  have base : ∀ m r, sk [] m = some r → sk (10 :: z) m = joined z r := by
    intro m r h
    match m with
    | 0 => cases h; exact sk_blank' _ _ (by decide)
    | 1 => cases h; rw [sk_line', if_pos rfl]; rfl
    | d + 2 => rw [sk, if_neg (by omega)] at h; cases h
  induction n with
  | zero =>
    intro l m r hl h
    have : l = [] := List.length_eq_zero_iff.1 (by omega)
    subst this
    exact base m r h
  | succ n ih =>
    intro l m r hl h
    match l, m with
    | [], m => exact base m r h
    | [a], 0 =>
      rw [sk] at h
      split at h
      · rename_i hb
        rw [List.cons_append, sk_blank' _ _ hb]
        exact ih [] 0 r (by simp) h
      · rename_i hb
        cases h
        show sk (a :: 10 :: z) 0 = _
        rw [sk, if_neg hb, if_neg (fun e => absurd e.2 (by decide)), if_neg (fun e => absurd e.2 (by decide))]
        rfl
    | a :: b :: q, 0 =>
      simp only [List.length_cons] at hl
      rw [sk] at h
      show sk (a :: b :: (q ++ 10 :: z)) 0 = _
      rw [sk]
      by_cases hb : blank a = true
      · rw [if_pos hb] at h ⊢
        exact ih (b :: q) 0 r (by simp; omega) h
      · rw [if_neg hb] at h ⊢
        by_cases h1 : a = 45 ∧ b = 45
        · rw [if_pos h1] at h ⊢
          exact ih q 1 r (by omega) h
        · rw [if_neg h1] at h ⊢
          by_cases h2 : a = 47 ∧ b = 42
          · rw [if_pos h2] at h ⊢
            exact ih q 3 r (by omega) h
          · rw [if_neg h2] at h ⊢
            cases h; rfl
    | a :: q, 1 =>
      simp only [List.length_cons] at hl
      rw [sk_line'] at h
      rw [List.cons_append, sk_line']
      split at h
      · rename_i ha
        rw [if_pos ha]
        exact ih q 0 r (by omega) h
      · rename_i ha
        rw [if_neg ha]
        exact ih q 1 r (by omega) h
    | [a], d + 2 => cases h
    | a :: b :: q, d + 2 =>
      simp only [List.length_cons] at hl
      rw [sk] at h
      show sk (a :: b :: (q ++ 10 :: z)) (d + 2) = _
      rw [sk]
      by_cases h1 : a = 47 ∧ b = 42
      · rw [if_pos h1] at h ⊢
        split at h
        · rename_i h2
          rw [if_pos h2]
          exact ih q _ r (by omega) h
        · cases h
      · rw [if_neg h1] at h ⊢
        by_cases h2 : a = 42 ∧ b = 47
        · rw [if_pos h2] at h ⊢
          split at h
          · rename_i h3
            rw [if_pos h3]
            exact ih q 0 r (by omega) h
          · rename_i h3
            rw [if_neg h3]
            exact ih q _ r (by omega) h
        · rw [if_neg h2] at h ⊢
          exact ih (b :: q) _ r (by simp; omega) h

theorem qt_join (z : Bs) (mark : UInt8) (hm : mark ≠ 10) (esc : Bool) : ∀ (n : Nat) (l t r : Bs), l.length ≤ n → qt mark esc l = some (t, r) → qt mark esc (l ++ 10 :: z) = some (t, r ++ 10 :: z) := by
  intro n
  induction n with
  | zero =>
    intro l t r hl h
    have : l = [] := List.length_eq_zero_iff.1 (by omega)
    subst this
    cases h
  | succ n ih =>
    intro l t r hl h
    have up : ∀ (q : Bs) (c : UInt8), q.length ≤ n → (qt mark esc q).map (fun p => (c :: p.1, p.2)) = some (t, r) → (qt mark esc (q ++ 10 :: z)).map (fun p => (c :: p.1, p.2)) = some (t, r ++ 10 :: z) := by
      intro q c hn hm
      cases hr : qt mark esc q with
      | none => rw [hr] at hm; cases hm
      | some p =>
        rw [hr] at hm
        cases hm
        rw [ih q p.1 p.2 hn hr]
        rfl
    match l, hl, h, up with
    | [], _, h, _ => cases h
    | [x], _, h, _ =>
      rw [qt_one] at h
      show qt mark esc (x :: 10 :: z) = _
      rw [qt_two]
      split at h
      · cases h
      · rename_i hx
        rw [if_neg hx]
        split at h
        · rename_i h2
          rw [if_pos h2, if_neg (fun e => hm e.symm)]
          cases h; rfl
        · cases h
    | x :: y :: q, hl, h, up =>
      simp only [List.length_cons] at hl
      rw [qt_two] at h
      show qt mark esc (x :: y :: (q ++ 10 :: z)) = _
      rw [qt_two]
      by_cases h1 : esc = true ∧ x = 92
      · rw [if_pos h1] at h ⊢
        exact up q _ (by omega) h
      · rw [if_neg h1] at h ⊢
        by_cases h2 : x = mark
        · rw [if_pos h2] at h ⊢
          by_cases h3 : y = mark
          · rw [if_pos h3] at h ⊢
            exact up q _ (by omega) h
          · rw [if_neg h3] at h ⊢
            cases h; rfl
        · rw [if_neg h2] at h ⊢
          exact up (y :: q) _ (by simp; omega) h

theorem takeWhile_join (p : UInt8 → Bool) (h : p 10 = false) (l z : Bs) : (l ++ 10 :: z).takeWhile p = l.takeWhile p ∧ (l ++ 10 :: z).dropWhile p = l.dropWhile p ++ 10 :: z := by
  induction l with
  | nil => simp [h]
  | cons a l ih =>
    by_cases ha : p a = true
    · simp [ha, ih]
    · simp [ha]

theorem headD_join (l z : Bs) (P : UInt8 → Bool) (h0 : P 0 = false) (h1 : P 10 = false) : P ((l ++ 10 :: z).headD 0) = P (l.headD 0) := by
  cases l with
  | nil => exact h1.trans h0.symm
  | cons => rfl

theorem nl_join (z : Bs) : ∀ (n : Nat) (l : Bs), l.length ≤ n → nl (l ++ 10 :: z) = nl l := by
  intro n
  have base : nl (10 :: z) = 0 := by rw [nl_else (by decide), if_neg (by decide)]
  induction n with
  | zero =>
    intro l hl
    have : l = [] := List.length_eq_zero_iff.1 (by omega)
    subst this
    exact base
  | succ n ih =>
    intro l hl
    match l with
    | [] => exact base
    | a :: r =>
      rw [List.length_cons] at hl
      rw [List.cons_append]
      by_cases h : dg a = true ∨ a = 46
      · rw [nl_on h, nl_on h, ih r (by omega)]
      · rw [nl_else h, nl_else h]
        have e1 : ((r ++ 10 :: z).headD 0 = 43 ∨ (r ++ 10 :: z).headD 0 = 45) = (r.headD 0 = 43 ∨ r.headD 0 = 45) := by
          cases r with
          | nil => exact propext ⟨fun e => e.elim (fun (h : (10 : UInt8) = 43) => absurd h (by decide)) (fun (h : (10 : UInt8) = 45) => absurd h (by decide)), fun e => e.elim (fun (h : (0 : UInt8) = 43) => absurd h (by decide)) (fun (h : (0 : UInt8) = 45) => absurd h (by decide))⟩
          | cons => rfl
        have e2 : dg ((r ++ 10 :: z).headD 0) = dg (r.headD 0) := headD_join r z dg (by decide) (by decide)
        simp only [e1, e2]
        split
        · split
          · rename_i h3
            cases r with
            | nil => exact absurd h3 (by decide)
            | cons b r =>
              have e3 : dg ((b :: r ++ 10 :: z).tail.headD 0) = dg ((b :: r).tail.headD 0) := headD_join r z dg (by decide) (by decide)
              rw [e3]
              show (if _ then 2 + nl (r ++ 10 :: z) else 0) = if _ then 2 + nl r else 0
              rw [ih r (by simp at hl; omega)]
          · rw [ih r (by omega)]
        · rfl

theorem prefix_join (t l z : Bs) (h : t.length ≤ l.length) : t.isPrefixOf (l ++ z) = t.isPrefixOf l := by
  rw [Bool.eq_iff_iff, List.isPrefixOf_iff_prefix, List.isPrefixOf_iff_prefix]
  constructor
  · intro hp
    exact List.prefix_of_prefix_length_le hp (List.prefix_append l z) h
  · intro hp
    exact hp.trans (List.prefix_append l z)

theorem find_join (t z : Bs) : ∀ (l : Bs) (n : Nat), find t l = some n → find t (l ++ z) = some n := by
  intro l
  induction l with
  | nil =>
    intro n h
    rw [find] at h
    split at h
    · rename_i ht
      subst ht
      cases h
      cases z with
      | nil => rfl
      | cons => rfl
    · cases h
  | cons a r ih =>
    intro n h
    have hb : t.length ≤ (a :: r).length := by
      rcases find_index t (a :: r) with ⟨h1, _⟩ | ⟨n', _, _, h3⟩
      · rw [h] at h1; cases h1
      · omega
    rw [find] at h
    rw [List.cons_append, find, ← List.cons_append, prefix_join t _ z hb]
    split at h
    · rename_i h1
      rw [if_pos h1]; exact h
    · rename_i h1
      rw [if_neg h1]
      cases hr : find t r with
      | none => rw [hr] at h; cases h
      | some k =>
        rw [hr] at h
        rw [ih k hr]
        exact h

theorem tagBody_join (l z : Bs) : tagBody (l ++ 10 :: z) = tagBody l := by
  cases l with
  | nil => rw [List.nil_append, tagBody, if_neg (by decide)]; rfl
  | cons b r => rw [List.cons_append, tagBody, tagBody, (takeWhile_join (fun c => bw c || dg c) (by decide) r z).1]

theorem tagBody_le (l : Bs) : (tagBody l).length ≤ l.length := by
  cases l with
  | nil => exact Nat.le_refl _
  | cons b r =>
    rw [tagBody]
    split
    · have := (List.takeWhile_prefix (l := r) (fun c => bw c || dg c)).length_le
      simp; omega
    · simp

theorem tag_join (l z : Bs) (hl : l ≠ []) : tagOf (l ++ 10 :: z) = tagOf l := by
  cases l with
  | nil => exact absurd rfl hl
  | cons a r =>
    rw [List.cons_append, tagOf, tagOf, tagBody_join]
    have e : (((r ++ 10 :: z).drop (tagBody r).length).head? = some 36) = ((r.drop (tagBody r).length).head? = some 36) := by
      rw [List.drop_append_of_le_length (tagBody_le r)]
      cases r.drop (tagBody r).length with
      | nil => exact propext ⟨fun (h : some (10 : UInt8) = some 36) => absurd h (by decide), fun (h : (none : Option UInt8) = some 36) => absurd h (by decide)⟩
      | cons => rfl
    simp only [e]

theorem token_join {l : Bs} (z : Bs) {k : UInt8} {t r : Bs} (h : token l = some (k, t, r)) : token (l ++ 10 :: z) = some (k, t, r ++ 10 :: z) := by
  cases l with
  | nil => cases h
  | cons b q =>
    rw [token] at h
    rw [List.cons_append, token]
    have e1 : ((q ++ 10 :: z).head? = some 39) = (q.head? = some 39) := by
      cases q with
      | nil => exact propext ⟨fun (h : some (10 : UInt8) = some 39) => absurd h (by decide), fun (h : (none : Option UInt8) = some 39) => absurd h (by decide)⟩
      | cons => rfl
    have e2 : dg ((q ++ 10 :: z).headD 0) = dg (q.headD 0) := headD_join q z dg (by decide) (by decide)
    simp only [e1, e2]
    have viaq : ∀ (mark : UInt8) (esc : Bool) (u : Bs) (c : UInt8), mark ≠ 10 → (qt mark esc u).map (fun p => (c, p.1, p.2)) = some (k, t, r) → (qt mark esc (u ++ 10 :: z)).map (fun p => (c, p.1, p.2)) = some (k, t, r ++ 10 :: z) := by
      intro mark esc u c hmk hm
      cases hr : qt mark esc u with
      | none => rw [hr] at hm; cases hm
      | some p =>
        rw [hr] at hm
        cases hm
        rw [qt_join z mark hmk esc _ u p.1 p.2 (Nat.le_refl _) hr]
        rfl
    split at h
    · rename_i hc
      rw [if_pos hc]
      cases q with
      | nil => cases hc.2
      | cons y q => exact viaq 39 true q 115 (by decide) h
    rename_i hc
    rw [if_neg hc]
    split at h
    · rename_i hb
      rw [if_pos hb]
      cases h
      rw [← List.cons_append, (takeWhile_join inw (by decide) (b :: q) z).1, (takeWhile_join inw (by decide) (b :: q) z).2]
    rename_i hb
    rw [if_neg hb]
    split at h
    · rename_i h3
      rw [if_pos h3]
      cases hr : qt 34 false q with
      | none => rw [hr] at h; cases h
      | some p =>
        rw [qt_join z 34 (by decide) false _ q p.1 p.2 (Nat.le_refl _) hr]
        rw [hr] at h
        simp only [Option.bind_some] at h ⊢
        split at h
        · cases h
        · rename_i h4
          rw [if_neg h4]
          cases h; rfl
    rename_i h3
    rw [if_neg h3]
    split at h
    · rename_i h4
      rw [if_pos h4]
      exact viaq 39 false q 115 (by decide) h
    rename_i h4
    rw [if_neg h4]
    split at h
    · rename_i h5
      rw [if_pos h5]
      cases h
      rw [← List.cons_append, nl_join z _ (b :: q) (Nat.le_refl _), List.take_append_of_le_length (nl_le _), List.drop_append_of_le_length (nl_le _)]
    rename_i h5
    rw [if_neg h5, ← List.cons_append, tag_join (b :: q) z (by simp)]
    split at h
    · rename_i tg htg
      obtain ⟨_, htl, _, ht0⟩ := tag_prefix htg
      cases hr : find tg ((b :: q).drop tg.length) with
      | none => rw [hr] at h; cases h
      | some n =>
        have hn : n + tg.length ≤ ((b :: q).drop tg.length).length := by
          rcases find_index tg ((b :: q).drop tg.length) with ⟨h1, _⟩ | ⟨n', h1, _, h3⟩
          · rw [hr] at h1; cases h1
          · rw [hr] at h1; cases h1; exact h3
        rw [hr] at h
        show (find tg ((b :: q ++ 10 :: z).drop tg.length)).map _ = _
        rw [List.drop_append_of_le_length htl, find_join tg _ _ n hr]
        cases h
        rw [List.length_drop] at hn
        simp only [Option.map_some]
        rw [List.take_append_of_le_length (by rw [List.length_drop]; omega), List.drop_append_of_le_length (by omega)]
    · cases h; rfl

def moved (d : Nat) (t : Tok) : Tok := ⟨t.kind, t.text, t.lo + d, t.hi + d⟩

theorem toks_fuel : ∀ (f g n : Nat) (l : Bs), l.length < f → l.length < g → toks f n l = toks g n l := by
  intro f
  induction f with
  | zero => intro g n l h; omega
  | succ f ih =>
    intro g n l hf hg
    match g with
    | g + 1 =>
      rw [toks_tk, toks_tk]
      cases hs : sk l 0 with
      | none => rfl
      | some q =>
        obtain ⟨d, hd, hdl⟩ := sk_sub l q hs
        cases q with
        | nil => rfl
        | cons a q =>
          show tk f n (a :: q) = tk g n (a :: q)
          rw [tk, tk]
          cases ht : token (a :: q) with
          | none => rfl
          | some p =>
            obtain ⟨k, t, r⟩ := p
            obtain ⟨e, he1, he, hel⟩ := token_sub ht
            have h1 : r.length < l.length := by
              rw [he, List.length_drop]
              have := congrArg List.length hd
              rw [List.length_drop] at this
              omega
            show (toks f n r).map _ = (toks g n r).map _
            rw [ih g n r (by omega) (by omega)]

theorem toks_moved : ∀ (f n d : Nat) (l : Bs), l.length ≤ n → toks f (n + d) l = (toks f n l).map (·.map (moved d)) := by
  intro f
  induction f with
  | zero => intro n d l _; rfl
  | succ f ih =>
    intro n d l hl
    rw [toks_tk, toks_tk]
    cases hs : sk l 0 with
    | none => rfl
    | some q =>
      obtain ⟨j, hj, hjl⟩ := sk_sub l q hs
      have h0 := congrArg List.length hj
      rw [List.length_drop] at h0
      cases q with
      | nil => rfl
      | cons a q =>
        show tk f (n + d) (a :: q) = (tk f n (a :: q)).map _
        rw [tk, tk]
        cases ht : token (a :: q) with
        | none => rfl
        | some p =>
          obtain ⟨k, t, r⟩ := p
          obtain ⟨e, he1, he, hel⟩ := token_sub ht
          have h1 := congrArg List.length he
          rw [List.length_drop] at h1
          show (toks f (n + d) r).map _ = ((toks f n r).map _).map _
          rw [ih n d r (by omega), Option.map_map, Option.map_map]
          congr 1
          funext ts
          show (⟨k, t, n + d - (a :: q).length, n + d - r.length⟩ : Tok) :: ts.map (moved d) = moved d ⟨k, t, n - (a :: q).length, n - r.length⟩ :: ts.map (moved d)
          congr 1
          show _ = (⟨k, t, n - (a :: q).length + d, n - r.length + d⟩ : Tok)
          congr 1 <;> omega

/-- Two texts, a line's end between. -/
theorem toks_join (z : Bs) : ∀ (f n : Nat) (l : Bs) (L : List Tok), l.length ≤ n → toks f n l = some L → ∀ F, l.length + z.length + 1 < F → toks F (n + (z.length + 1)) (l ++ 10 :: z) = (toks (z.length + 1) z.length z).map fun R => L ++ R.map (moved (n + 1)) := by
  intro f
  induction f with
  | zero => intro n l L _ h; cases h
  | succ f ih =>
    intro n l L hl h F hF
    rw [toks_tk] at h
    match F with
    | F + 1 =>
      cases hs : sk l 0 with
      | none => rw [hs] at h; cases h
      | some q =>
        rw [hs] at h
        have hj := sk_join z _ l 0 q (Nat.le_refl _) hs
        obtain ⟨j, hjd, hjl⟩ := sk_sub l q hs
        have h0 := congrArg List.length hjd
        rw [List.length_drop] at h0
        cases q with
        | nil =>
          cases h
          have e : n + (z.length + 1) = z.length + (n + 1) := by omega
          rw [toks_tk, hj, e]
          show (sk z 0).bind _ = _
          rw [← toks_tk, toks_moved _ _ _ _ (Nat.le_refl _), toks_fuel (F + 1) (z.length + 1) _ z (by omega) (by omega)]
          congr 1
        | cons a q =>
          rw [toks_tk, hj]
          show tk F (n + (z.length + 1)) (a :: q ++ 10 :: z) = _
          have h : tk f n (a :: q) = some L := h
          rw [tk] at h
          cases ht : token (a :: q) with
          | none => rw [ht] at h; cases h
          | some p =>
            obtain ⟨k, t, r⟩ := p
            obtain ⟨e, he1, he, hel⟩ := token_sub ht
            have h1 := congrArg List.length he
            rw [List.length_drop] at h1
            rw [ht] at h
            have h : (toks f n r).map _ = some L := h
            cases hr : toks f n r with
            | none => rw [hr] at h; cases h
            | some L' =>
              rw [hr] at h
              cases h
              rw [List.cons_append, tk, ← List.cons_append, token_join z ht]
              show (toks F (n + (z.length + 1)) (r ++ 10 :: z)).map _ = _
              rw [ih n r L' (by omega) hr F (by simp at *; omega), Option.map_map]
              congr 1
              funext R
              show (⟨k, t, _, _⟩ : Tok) :: (L' ++ _) = _
              rw [List.cons_append]
              congr 1
              congr 1 <;> (simp only [List.length_append, List.length_cons] at *; omega)

theorem tokens_join (s z : Bs) {L : List Tok} (h : tokens s = some L) : tokens (s ++ 10 :: z) = (tokens z).map fun R => L ++ R.map (moved (s.length + 1)) := by
  unfold tokens at h ⊢
  split at h
  · cases h
  · rename_i h0
    by_cases hz : (0 : UInt8) ∈ z
    · rw [if_pos hz, if_pos (by simp [hz])]; rfl
    · rw [if_neg hz, if_neg (by simp [h0, hz])]
      have := toks_join z _ _ s L (Nat.le_refl _) h ((s ++ 10 :: z).length + 1) (by rw [List.length_append, List.length_cons]; omega)
      rw [← this]
      simp
end Go.Proofs.YtpijolcklmdjbaaGreatDoor

namespace Go.Proofs.YtpijolcklmdjbaaGreatDoor

def kt (q : Tok) : UInt8 × Bs := (q.kind, q.text)
/-- The kinds and texts of all tokens. -/
def kts (l : Bs) : Option (List (UInt8 × Bs)) := (toks (l.length + 1) l.length l).map fun L => L.map kt

theorem kts_any (f n : Nat) (l : Bs) (hf : l.length < f) (hn : l.length ≤ n) : (toks f n l).map (fun L => L.map kt) = kts l := by
  unfold kts
  rw [toks_fuel f (l.length + 1) n l hf (by omega), show n = l.length + (n - l.length) by omega, toks_moved _ _ _ _ (Nat.le_refl _), Option.map_map]
  congr 1
  funext L
  simp [Function.comp_def, kt, moved]

theorem kts_step {l : Bs} {a : UInt8} {q : Bs} {k : UInt8} {t r : Bs} (h : sk l 0 = some (a :: q)) (ht : token (a :: q) = some (k, t, r)) : kts l = (kts r).map ((k, t) :: ·) := by
  have h1 : r.length < l.length := by
    obtain ⟨d, hd, hdl⟩ := sk_sub l _ h
    obtain ⟨e, he, hee, hel⟩ := token_sub ht
    have := congrArg List.length hd
    have h2 := congrArg List.length hee
    rw [List.length_drop] at this h2
    omega
  rw [← kts_any l.length l.length r h1 (by omega)]
  show (toks (l.length + 1) l.length l).map _ = _
  rw [toks_step h ht, Option.map_map, Option.map_map]
  rfl

theorem kts_done {l : Bs} (h : sk l 0 = some []) : kts l = some [] := by
  unfold kts
  rw [toks_done h]; rfl

theorem tokens_kts {l : Bs} (h0 : (0 : UInt8) ∉ l) {K : List (UInt8 × Bs)} (h : kts l = some K) : ∃ L, tokens l = some L ∧ L.map kt = K := by
  unfold tokens
  rw [if_neg h0]
  unfold kts at h
  cases ht : toks (l.length + 1) l.length l with
  | none => rw [ht] at h; cases h
  | some L => rw [ht] at h; exact ⟨L, rfl, Option.some.inj h⟩

/-- What stands between marks, each mark in it twice, is read as it was. -/
theorem qt_doubled (mark : UInt8) (rest : Bs) (h : rest.head? ≠ some mark) : ∀ t : Bs, qt mark false (doubled mark t ++ mark :: rest) = some (t, rest) := by
  intro t
  induction t with
  | nil =>
    cases rest with
    | nil => rw [doubled, List.nil_append, qt_one]; simp
    | cons y r =>
      rw [doubled, List.nil_append, qt_two]
      have : y ≠ mark := fun e => h (by rw [e]; rfl)
      simp [this]
  | cons b r ih =>
    by_cases hb : b = mark
    · subst hb
      rw [doubled, if_pos rfl, List.cons_append, List.cons_append, qt_two]
      simp [ih]
    · rw [doubled, if_neg hb, List.cons_append]
      cases hl : doubled mark r ++ mark :: rest with
      | nil => simp at hl
      | cons y q =>
        rw [hl] at ih
        rw [qt_two]
        simp [hb, ih]

theorem token_cons (b : UInt8) (r : Bs) : token (b :: r) = (if (b = 101 ∨ b = 69) ∧ r.head? = some 39 then (qt 39 true r.tail).map fun p => (115, p.1, p.2)
    else if bw b then some (119, ((b :: r).takeWhile inw).map low, (b :: r).dropWhile inw)
    else if b = 34 then (qt 34 false r).bind fun p => if p.1 = [] then none else some (113, p.1, p.2)
    else if b = 39 then (qt 39 false r).map fun p => (115, p.1, p.2)
    else if dg b ∨ b = 46 ∧ dg (r.headD 0) then some (110, (b :: r).take (nl (b :: r)), (b :: r).drop (nl (b :: r)))
    else match tagOf (b :: r) with
      | some t => (find t ((b :: r).drop t.length)).map fun n => (115, ((b :: r).drop t.length).take n, (b :: r).drop (t.length + n + t.length))
      | none => some (111, [b], r) : Option (UInt8 × Bs × Bs)) := rfl
theorem token_text_read (t rest : Bs) (h : rest.head? ≠ some 39) : token (39 :: (doubled 39 t ++ 39 :: rest)) = some (115, t, rest) := by
  rw [token_cons, if_neg (by simp), if_neg (by decide), if_neg (by decide), if_pos rfl, qt_doubled 39 rest h t]; rfl
theorem token_name_read (t rest : Bs) (h0 : t ≠ []) (h : rest.head? ≠ some 34) : token (34 :: (doubled 34 t ++ 34 :: rest)) = some (113, t, rest) := by
  rw [token_cons, if_neg (by simp), if_neg (by decide), if_pos rfl, qt_doubled 34 rest h t]
  show (if t = [] then none else _) = _
  rw [if_neg h0]

theorem takeWhile_run {p : UInt8 → Bool} : ∀ {l rest : Bs}, (∀ c ∈ l, p c = true) → (∀ c, rest.head? = some c → p c = false) → (l ++ rest).takeWhile p = l ∧ (l ++ rest).dropWhile p = rest := by
  intro l rest hl hr
  induction l with
  | nil =>
    cases rest with
    | nil => exact ⟨rfl, rfl⟩
    | cons c r =>
      have := hr c rfl
      rw [List.nil_append, List.takeWhile_cons_of_neg (by simp [this]), List.dropWhile_cons_of_neg (by simp [this])]
      exact ⟨rfl, rfl⟩
  | cons c l ih =>
    have hc := hl c (List.mem_cons_self ..)
    obtain ⟨h1, h2⟩ := ih (fun x hx => hl x (List.mem_cons_of_mem _ hx))
    rw [List.cons_append, List.takeWhile_cons_of_pos hc, List.dropWhile_cons_of_pos hc, h1, h2]
    exact ⟨rfl, rfl⟩

/-- A word of small letters, signs that may be in it, and digits. -/
theorem token_word_read (b : UInt8) (r rest : Bs) (hb : bw b = true) (hl : ∀ c ∈ b :: r, inw c = true ∧ low c = c) (hq : r.head? ≠ some 39) (h39 : rest.head? ≠ some 39) (hr : ∀ c, rest.head? = some c → inw c = false) : token (b :: (r ++ rest)) = some (119, b :: r, rest) := by
  have hh : (r ++ rest).head? ≠ some 39 := by
    cases r with
    | nil => exact h39
    | cons x r => exact hq
  obtain ⟨h1, h2⟩ := takeWhile_run (p := inw) (l := b :: r) (rest := rest) (fun c hc => (hl c hc).1) hr
  rw [List.cons_append] at h1 h2
  rw [token_cons, if_neg (fun e => hh e.2), if_pos hb, h1, h2]
  congr 2
  rw [List.map_congr_left (g := id) (fun c hc => (hl c hc).2), List.map_id]

/-- A sign. -/
theorem token_sign_read (b : UInt8) (r : Bs) (h1 : ¬ (b = 101 ∨ b = 69)) (h2 : bw b = false) (h3 : b ≠ 34) (h4 : b ≠ 39) (h5 : ¬ (dg b = true ∨ b = 46 ∧ dg (r.headD 0) = true)) (h6 : b ≠ 36) : token (b :: r) = some (111, [b], r) := by
  rw [token_cons, if_neg (fun e => h1 e.1), if_neg (by rw [h2]; decide), if_neg h3, if_neg h4, if_neg h5]
  have : tagOf (b :: r) = none := if_neg (fun e => h6 e.1)
  rw [this]
end Go.Proofs.YtpijolcklmdjbaaGreatDoor
