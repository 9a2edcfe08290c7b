/- An identifier, and a value, scanned: mathematics. -/
import Derived.Test.YtpijolcklmdjbaaDoorNNameM
import Derived.Test.YtpijolcklmdjbaaDoorKts
namespace Go.Proofs.YtpijolcklmdjbaaDoor
open Go.RowKit Go.Lib Go.WideShapes

theorem lowB_facts {c : UInt8} (h : lowB c = true) : bw c = true ∧ inw c = true ∧ low c = c ∧ blank c = false ∧ c ≠ 0 ∧ c ≠ 45 ∧ c ≠ 47 ∧ c ≠ 39 ∧ c ≠ 34 := by
  rw [lowB_nat] at h
  have h : (97 ≤ c.toNat ∧ c.toNat ≤ 122) ∨ c.toNat = 95 := by simpa using h
  have hb : bw c = true := by
    unfold bw
    simp [UInt8.le_iff_toNat_le, ← UInt8.toNat_inj]; omega
  refine ⟨hb, by unfold inw; rw [hb]; rfl, ?_, ?_, ?_, ?_, ?_, ?_, ?_⟩
  · unfold low
    rw [if_neg (by simp [UInt8.le_iff_toNat_le]; omega)]
  · unfold blank; simp [← UInt8.toNat_inj]; omega
  all_goals (intro e; subst e; simp at h)

theorem digB_facts {c : UInt8} (h : digB c = true) : inw c = true ∧ low c = c ∧ c ≠ 39 ∧ c ≠ 0 := by
  rw [digB_nat] at h
  have h : 48 ≤ c.toNat ∧ c.toNat ≤ 57 := by simpa using h
  refine ⟨?_, ?_, ?_, ?_⟩
  · unfold inw dg
    simp [UInt8.le_iff_toNat_le, ← UInt8.toNat_inj]; omega
  · unfold low
    rw [if_neg (by simp [UInt8.le_iff_toNat_le]; omega)]
  all_goals (intro e; subst e; simp at h)

theorem part_facts {l : Bs} (h : partB l = true) : ∀ c ∈ l, inw c = true ∧ low c = c ∧ c ≠ 39 ∧ c ≠ 0 := by
  intro c hc
  rcases partB_mem h c hc with e | e
  · obtain ⟨_, h2, h3, _, h5, _, _, h8, _⟩ := lowB_facts e
    exact ⟨h2, h3, h8, h5⟩
  · exact digB_facts e

/-- What may stand behind an identifier. -/
def Ends (rest : Bs) : Prop := rest.head? ≠ some 39 ∧ rest.head? ≠ some 34 ∧ ∀ c, rest.head? = some c → inw c = false

/-- An identifier is one token: a word or a name. -/
theorem ident_read (s rest : Bs) (h0 : s ≠ []) (hr : Ends rest) : ∃ k a q, (k = 119 ∨ k = 113) ∧ identB s ++ rest = a :: q ∧ sk (a :: q) 0 = some (a :: q) ∧ token (a :: q) = some (k, s, rest) := by
  unfold identB
  cases hp : partB s && !takenB s with
  | true =>
    have hp : partB s = true := by cases h : partB s with
      | true => rfl
      | false => rw [h] at hp; cases hp
    rw [if_pos rfl]
    cases s with
    | nil => exact absurd rfl h0
    | cons b r =>
      have hb : lowB b = true := by
        cases h : lowB b with
        | true => rfl
        | false => rw [partB, h] at hp; cases hp
      obtain ⟨g1, _, _, g4, _, g6, g7, _, _⟩ := lowB_facts hb
      have hq : r.head? ≠ some 39 := by
        cases r with
        | nil => simp
        | cons x r =>
          intro e
          have e : x = 39 := by simpa using e
          exact (part_facts hp x (by simp)).2.2.1 e
      refine ⟨119, b, r ++ rest, .inl rfl, rfl, ?_, token_word_read b r rest g1 (fun c hc => ⟨(part_facts hp c hc).1, (part_facts hp c hc).2.1⟩) hq hr.1 hr.2.2⟩
      exact sk_first g4 (fun e => g6 e.1) (fun e => g7 e.1)
  | false =>
    rw [if_neg (by decide)]
    refine ⟨113, 34, doubled 34 s ++ 34 :: rest, .inr rfl, by unfold quoted; simp, ?_, token_name_read s rest h0 hr.2.1⟩
    exact sk_first (by decide) (fun e => by cases e.1) (fun e => by cases e.1)

/-- A value is one token: a text. -/
theorem literal_read (t rest : Bs) (hr : rest.head? ≠ some 39) : ∃ a q, quoted 39 t ++ rest = a :: q ∧ sk (a :: q) 0 = some (a :: q) ∧ token (a :: q) = some (115, t, rest) := by
  refine ⟨39, doubled 39 t ++ 39 :: rest, by unfold quoted; simp, ?_, token_text_read t rest hr⟩
  exact sk_first (by decide) (fun e => by cases e.1) (fun e => by cases e.1)

theorem doubled_mem {c x : UInt8} : ∀ {l : Bs}, x ∈ doubled c l → x ∈ l := by
  intro l
  induction l with
  | nil => intro h; exact h
  | cons b r ih =>
    intro h
    rw [doubled] at h
    by_cases hb : b = c
    · subst hb
      rw [if_pos rfl] at h
      simp at h
      rcases h with h | h
      · rw [h]; exact List.mem_cons_self ..
      · exact List.mem_cons_of_mem _ (ih h)
    · rw [if_neg hb] at h
      simp at h
      rcases h with h | h
      · rw [h]; exact List.mem_cons_self ..
      · exact List.mem_cons_of_mem _ (ih h)
theorem quoted_mem {c x : UInt8} {l : Bs} (hx : x ≠ c) (h : x ∈ quoted c l) : x ∈ l := by
  unfold quoted at h
  simp at h
  rcases h with h | h | h
  · exact absurd h hx
  · exact doubled_mem h
  · exact absurd h hx
theorem ident_mem {x : UInt8} {l : Bs} (hx : x ≠ 34) (h : x ∈ identB l) : x ∈ l := by
  unfold identB at h
  split at h
  · exact h
  · exact quoted_mem hx h
theorem quoted_length (c : UInt8) (l : Bs) : (quoted c l).length ≤ 2 * l.length + 2 := by
  unfold quoted
  have : (doubled c l).length ≤ 2 * l.length := by
    rw [doubled_length]
    have := List.count_le_length (a := c) (l := l)
    omega
  simp; omega
theorem ident_length (l : Bs) : (identB l).length ≤ 2 * l.length + 2 := by
  unfold identB
  split
  · omega
  · exact quoted_length 34 l

/-- x, an identifier, =, a value, ;y. -/
theorem back_kts (s t : Bs) (h0 : s ≠ []) : ∃ k, (k = 119 ∨ k = 113) ∧ kts (120 :: 32 :: (identB s ++ 61 :: (quoted 39 t ++ [59, 121]))) = some [(119, [120]), (k, s), (111, [61]), (115, t), (111, [59]), (119, [121])] := by
  obtain ⟨k, a, q, hk, hi, hs, ht⟩ := ident_read s (61 :: (quoted 39 t ++ [59, 121])) h0 ⟨by simp, by simp, fun c hc => by simp at hc; subst hc; rfl⟩
  obtain ⟨a2, q2, hl, hs2, ht2⟩ := literal_read t [59, 121] (by simp)
  refine ⟨k, hk, ?_⟩
  rw [hi]
  have e1 : kts (120 :: 32 :: a :: q) = (kts (32 :: a :: q)).map ((119, [120]) :: ·) := kts_step (sk_first (by decide) (fun e => by cases e.1) (fun e => by cases e.1)) (token_word_read 120 [] (32 :: a :: q) (by decide) (fun c hc => by simp at hc; subst hc; exact ⟨rfl, rfl⟩) (by simp) (by simp) (fun c hc => by simp at hc; subst hc; rfl))
  have e2 : kts (32 :: a :: q) = (kts (61 :: (quoted 39 t ++ [59, 121]))).map ((k, s) :: ·) := kts_step (by rw [sk_blank' _ _ (by decide)]; exact hs) ht
  have e3 : kts (61 :: (quoted 39 t ++ [59, 121])) = (kts (quoted 39 t ++ [59, 121])).map ((111, [61]) :: ·) := kts_step (sk_first (by decide) (fun e => by cases e.1) (fun e => by cases e.1)) (token_sign_read 61 _ (by decide) (by decide) (by decide) (by decide) (by intro e; rcases e with e | e; cases e; cases e.1) (by decide))
  have e4 : kts (quoted 39 t ++ [59, 121]) = (kts [59, 121]).map ((115, t) :: ·) := by rw [hl]; exact kts_step hs2 ht2
  have e5 : kts [59, 121] = some [(111, [59]), (119, [121])] := by rfl
  rw [e1, e2, e3, e4, e5]; rfl
end Go.Proofs.YtpijolcklmdjbaaDoor
