/- The kinds and texts of the tokens of a text, step by step; what stands between marks is read again. -/
import Derived.Test.YtpijolcklmdjbaaDoorDoubled
import Derived.Test.YtpijolcklmdjbaaDoorJoinM
namespace Go.Proofs.YtpijolcklmdjbaaDoor

def kt (q : Tok) : UInt8 × Bs := (q.kind, q.text)
/-- The kinds and texts of all tokens. -/
def kts (l : Bs) : Option (List (UInt8 × Bs)) := (toks (l.length + 1) l.length l).map fun L => L.map kt

theorem kts_any (f n : Nat) (l : Bs) (hf : l.length < f) (hn : l.length ≤ n) : (toks f n l).map (fun L => L.map kt) = kts l := by
  unfold kts
  rw [toks_fuel f (l.length + 1) n l hf (by omega), show n = l.length + (n - l.length) by omega, toks_moved _ _ _ _ (Nat.le_refl _), Option.map_map]
  congr 1
  funext L
  simp [Function.comp_def, kt, moved]

theorem kts_step {l : Bs} {a : UInt8} {q : Bs} {k : UInt8} {t r : Bs} (h : sk l 0 = some (a :: q)) (ht : token (a :: q) = some (k, t, r)) : kts l = (kts r).map ((k, t) :: ·) := by
  have h1 : r.length < l.length := by
    obtain ⟨d, hd, hdl⟩ := sk_sub l _ h
    obtain ⟨e, he, hee, hel⟩ := token_sub ht
    have := congrArg List.length hd
    have h2 := congrArg List.length hee
    rw [List.length_drop] at this h2
    omega
  rw [← kts_any l.length l.length r h1 (by omega)]
  show (toks (l.length + 1) l.length l).map _ = _
  rw [toks_step h ht, Option.map_map, Option.map_map]
  rfl

theorem kts_done {l : Bs} (h : sk l 0 = some []) : kts l = some [] := by
  unfold kts
  rw [toks_done h]; rfl

theorem tokens_kts {l : Bs} (h0 : (0 : UInt8) ∉ l) {K : List (UInt8 × Bs)} (h : kts l = some K) : ∃ L, tokens l = some L ∧ L.map kt = K := by
  unfold tokens
  rw [if_neg h0]
  unfold kts at h
  cases ht : toks (l.length + 1) l.length l with
  | none => rw [ht] at h; cases h
  | some L => rw [ht] at h; exact ⟨L, rfl, Option.some.inj h⟩

/-- What stands between marks, each mark in it twice, is read as it was. -/
theorem qt_doubled (mark : UInt8) (rest : Bs) (h : rest.head? ≠ some mark) : ∀ t : Bs, qt mark false (doubled mark t ++ mark :: rest) = some (t, rest) := by
  intro t
  induction t with
  | nil =>
    cases rest with
    | nil => rw [doubled, List.nil_append, qt_one]; simp
    | cons y r =>
      rw [doubled, List.nil_append, qt_two]
      have : y ≠ mark := fun e => h (by rw [e]; rfl)
      simp [this]
  | cons b r ih =>
    by_cases hb : b = mark
    · subst hb
      rw [doubled, if_pos rfl, List.cons_append, List.cons_append, qt_two]
      simp [ih]
    · rw [doubled, if_neg hb, List.cons_append]
      cases hl : doubled mark r ++ mark :: rest with
      | nil => simp at hl
      | cons y q =>
        rw [hl] at ih
        rw [qt_two]
        simp [hb, ih]

theorem token_cons (b : UInt8) (r : Bs) : token (b :: r) = (if (b = 101 ∨ b = 69) ∧ r.head? = some 39 then (qt 39 true r.tail).map fun p => (115, p.1, p.2)
    else if bw b then some (119, ((b :: r).takeWhile inw).map low, (b :: r).dropWhile inw)
    else if b = 34 then (qt 34 false r).bind fun p => if p.1 = [] then none else some (113, p.1, p.2)
    else if b = 39 then (qt 39 false r).map fun p => (115, p.1, p.2)
    else if dg b ∨ b = 46 ∧ dg (r.headD 0) then some (110, (b :: r).take (nl (b :: r)), (b :: r).drop (nl (b :: r)))
    else match tagOf (b :: r) with
      | some t => (find t ((b :: r).drop t.length)).map fun n => (115, ((b :: r).drop t.length).take n, (b :: r).drop (t.length + n + t.length))
      | none => some (111, [b], r) : Option (UInt8 × Bs × Bs)) := rfl
theorem token_text_read (t rest : Bs) (h : rest.head? ≠ some 39) : token (39 :: (doubled 39 t ++ 39 :: rest)) = some (115, t, rest) := by
  rw [token_cons, if_neg (by simp), if_neg (by decide), if_neg (by decide), if_pos rfl, qt_doubled 39 rest h t]; rfl
theorem token_name_read (t rest : Bs) (h0 : t ≠ []) (h : rest.head? ≠ some 34) : token (34 :: (doubled 34 t ++ 34 :: rest)) = some (113, t, rest) := by
  rw [token_cons, if_neg (by simp), if_neg (by decide), if_pos rfl, qt_doubled 34 rest h t]
  show (if t = [] then none else _) = _
  rw [if_neg h0]

theorem takeWhile_run {p : UInt8 → Bool} : ∀ {l rest : Bs}, (∀ c ∈ l, p c = true) → (∀ c, rest.head? = some c → p c = false) → (l ++ rest).takeWhile p = l ∧ (l ++ rest).dropWhile p = rest := by
  intro l rest hl hr
  induction l with
  | nil =>
    cases rest with
    | nil => exact ⟨rfl, rfl⟩
    | cons c r =>
      have := hr c rfl
      rw [List.nil_append, List.takeWhile_cons_of_neg (by simp [this]), List.dropWhile_cons_of_neg (by simp [this])]
      exact ⟨rfl, rfl⟩
  | cons c l ih =>
    have hc := hl c (List.mem_cons_self ..)
    obtain ⟨h1, h2⟩ := ih (fun x hx => hl x (List.mem_cons_of_mem _ hx))
    rw [List.cons_append, List.takeWhile_cons_of_pos hc, List.dropWhile_cons_of_pos hc, h1, h2]
    exact ⟨rfl, rfl⟩

/-- A word of small letters, signs that may be in it, and digits. -/
theorem token_word_read (b : UInt8) (r rest : Bs) (hb : bw b = true) (hl : ∀ c ∈ b :: r, inw c = true ∧ low c = c) (hq : r.head? ≠ some 39) (h39 : rest.head? ≠ some 39) (hr : ∀ c, rest.head? = some c → inw c = false) : token (b :: (r ++ rest)) = some (119, b :: r, rest) := by
  have hh : (r ++ rest).head? ≠ some 39 := by
    cases r with
    | nil => exact h39
    | cons x r => exact hq
  obtain ⟨h1, h2⟩ := takeWhile_run (p := inw) (l := b :: r) (rest := rest) (fun c hc => (hl c hc).1) hr
  rw [List.cons_append] at h1 h2
  rw [token_cons, if_neg (fun e => hh e.2), if_pos hb, h1, h2]
  congr 2
  rw [List.map_congr_left (g := id) (fun c hc => (hl c hc).2), List.map_id]

/-- A sign. -/
theorem token_sign_read (b : UInt8) (r : Bs) (h1 : ¬ (b = 101 ∨ b = 69)) (h2 : bw b = false) (h3 : b ≠ 34) (h4 : b ≠ 39) (h5 : ¬ (dg b = true ∨ b = 46 ∧ dg (r.headD 0) = true)) (h6 : b ≠ 36) : token (b :: r) = some (111, [b], r) := by
  rw [token_cons, if_neg (fun e => h1 e.1), if_neg (by rw [h2]; decide), if_neg h3, if_neg h4, if_neg h5]
  have : tagOf (b :: r) = none := if_neg (fun e => h6 e.1)
  rw [this]
end Go.Proofs.YtpijolcklmdjbaaDoor
