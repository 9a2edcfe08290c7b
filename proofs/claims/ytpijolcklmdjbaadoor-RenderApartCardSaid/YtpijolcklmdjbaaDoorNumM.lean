/- The tokens of a number between signs. -/
import Derived.Test.YtpijolcklmdjbaaDoorTokens
namespace Go.Proofs.YtpijolcklmdjbaaDoor

theorem toks_step {f n : Nat} {l : Bs} {a : UInt8} {q : Bs} {k : UInt8} {t r : Bs} (h : sk l 0 = some (a :: q)) (ht : token (a :: q) = some (k, t, r)) : toks (f + 1) n l = (toks f n r).map (⟨k, t, n - (a :: q).length, n - r.length⟩ :: ·) := by
  rw [toks_tk, h]
  show tk f n (a :: q) = _
  rw [tk, ht]
theorem toks_done {f n : Nat} {l : Bs} (h : sk l 0 = some []) : toks (f + 1) n l = some [] := by rw [toks_tk, h]; rfl

theorem dg_facts {c : UInt8} (h : dg c = true) : bw c = false ∧ c ≠ 101 ∧ c ≠ 69 ∧ c ≠ 34 ∧ c ≠ 39 ∧ c ≠ 45 ∧ c ≠ 47 ∧ c ≠ 43 ∧ blank c = false ∧ c ≠ 36 := by
  have h2 : 48 ≤ c.toNat ∧ c.toNat ≤ 57 := by simpa [dg, UInt8.le_iff_toNat_le] using h
  have hne : ∀ d : UInt8, (d.toNat < 48 ∨ 57 < d.toNat) → c ≠ d := fun d hd e => by subst e; omega
  refine ⟨?_, hne _ (by decide), hne _ (by decide), hne _ (by decide), hne _ (by decide), hne _ (by decide), hne _ (by decide), hne _ (by decide), ?_, hne _ (by decide)⟩
  · rw [← Bool.not_eq_true]
    simp [bw, UInt8.le_iff_toNat_le, ← UInt8.toNat_inj]
    omega
  · rw [← Bool.not_eq_true]
    simp [blank, ← UInt8.toNat_inj]
    omega

theorem tok_num {c : UInt8} {r : Bs} (h : dg c = true) : token (c :: r) = some (110, (c :: r).take (nl (c :: r)), (c :: r).drop (nl (c :: r))) := by
  obtain ⟨h1, h2, h3, h4, h5, _⟩ := dg_facts h
  rw [token, if_neg (fun e => e.1.elim h2 h3), if_neg (by rw [h1]; simp), if_neg h4, if_neg h5, if_pos (.inl h)]

theorem tok_sign {c : UInt8} {r : Bs} (h1 : bw c = false) (h2 : c ≠ 34) (h3 : c ≠ 39) (h4 : dg c = false) (h5 : ¬ (c = 46 ∧ dg (r.headD 0) = true)) (h6 : c ≠ 36) : token (c :: r) = some (111, [c], r) := by
  have e : tagOf (c :: r) = none := by rw [tagOf, if_neg (fun e => h6 e.1)]
  rw [token, if_neg (fun e => by rcases e.1 with rfl | rfl <;> exact absurd h1 (by decide)), if_neg (by rw [h1]; simp), if_neg h2, if_neg h3, if_neg (fun e => e.elim (fun h => by rw [h4] at h; cases h) h5), e]

theorem sk_first {x : UInt8} {r : Bs} (h0 : blank x = false) (h1 : ¬ (x = 45 ∧ r.head? = some 45)) (h2 : ¬ (x = 47 ∧ r.head? = some 42)) : sk (x :: r) 0 = some (x :: r) := by
  refine sk_here h0 ?_ ?_
  · rw [← Bool.not_eq_true]
    intro h
    cases r with
    | nil => simp [List.isPrefixOf] at h
    | cons y r => simp [List.isPrefixOf] at h; exact h1 ⟨h.1.symm, by simp [h.2]⟩
  · rw [← Bool.not_eq_true]
    intro h
    cases r with
    | nil => simp [List.isPrefixOf] at h
    | cons y r => simp [List.isPrefixOf] at h; exact h2 ⟨h.1.symm, by simp [h.2]⟩

theorem nl_e {a c : UInt8} {r : Bs} (ha : a = 101 ∨ a = 69) (hc : dg c = true) : nl (a :: c :: r) = 1 + nl (c :: r) := by
  have hf := dg_facts hc
  rw [nl_else (by rcases ha with rfl | rfl <;> decide), if_pos ha, if_neg (show ¬ ((c :: r).headD 0 = 43 ∨ (c :: r).headD 0 = 45) from fun e => e.elim hf.2.2.2.2.2.2.2.1 hf.2.2.2.2.2.1), if_pos (show dg ((c :: r).headD 0) = true from hc)]

theorem nl_e_sign {a b c : UInt8} {r : Bs} (ha : a = 101 ∨ a = 69) (hb : b = 43 ∨ b = 45) (hc : dg c = true) : nl (a :: b :: c :: r) = 2 + nl (c :: r) := by
  rw [nl_else (by rcases ha with rfl | rfl <;> decide), if_pos ha, if_pos (show (b :: c :: r).headD 0 = 43 ∨ (b :: c :: r).headD 0 = 45 from hb), if_pos (show dg ((b :: c :: r).tail.headD 0) = true from hc)]
  rfl

theorem nl_run (d r : Bs) (h : ∀ c ∈ d, dg c = true ∨ c = 46) : nl (d ++ r) = d.length + nl r := by
  induction d with
  | nil => simp
  | cons c d ih =>
    rw [List.cons_append, nl_on (h c (by simp)), ih (fun c hc => h c (by simp [hc])), List.length_cons]
    omega

/-- What the law writes as a number. -/
def Num (N : Bs) : Prop := ∃ da db P : Bs, N = da ++ (46 :: (db ++ P)) ∧ (da ≠ [] ∧ ∀ c ∈ da, dg c = true) ∧ (∀ c ∈ db, dg c = true) ∧ (P = [] ∨ ∃ dc : Bs, (dc ≠ [] ∧ ∀ c ∈ dc, dg c = true) ∧ (P = 101 :: dc ∨ P = 69 :: 45 :: dc))

theorem nl_tail : nl [45, 46, 120] = 0 := by
  rw [nl_else (by decide), if_neg (by decide)]

theorem nl_num {N : Bs} (h : Num N) : nl (N ++ [45, 46, 120]) = N.length := by
  obtain ⟨da, db, P, rfl, ⟨_, h1⟩, h2, h3⟩ := h
  have e : (da ++ 46 :: (db ++ P)) ++ [45, 46, 120] = (da ++ 46 :: db) ++ (P ++ [45, 46, 120]) := by simp
  rw [e, nl_run _ _ (by
    intro c hc
    rcases List.mem_append.1 hc with hc | hc
    · exact .inl (h1 c hc)
    · rcases List.mem_cons.1 hc with rfl | hc
      · exact .inr rfl
      · exact .inl (h2 c hc))]
  have hP : nl (P ++ [45, 46, 120]) = P.length := by
    rcases h3 with rfl | ⟨dc, ⟨hne, h4⟩, rfl | rfl⟩
    · exact nl_tail
    · obtain ⟨c, d, rfl⟩ := List.exists_cons_of_ne_nil hne
      have := nl_run (c :: d) [45, 46, 120] (fun x hx => .inl (h4 x hx))
      rw [List.cons_append] at this
      rw [List.cons_append, List.cons_append, nl_e (.inl rfl) (h4 c (by simp)), this, nl_tail]
      simp; omega
    · obtain ⟨c, d, rfl⟩ := List.exists_cons_of_ne_nil hne
      have := nl_run (c :: d) [45, 46, 120] (fun x hx => .inl (h4 x hx))
      rw [List.cons_append] at this
      rw [List.cons_append, List.cons_append, List.cons_append, nl_e_sign (.inr rfl) (.inr rfl) (h4 c (by simp)), this, nl_tail]
      simp; omega
  rw [hP]
  simp; omega

theorem num_tokens {N : Bs} (h : Num N) : ∃ a1 a2 a3 a4 a5 b1 b2 b3 b4 b5, tokens (45 :: (N ++ [45, 46, 120])) = some [⟨111, [45], a1, b1⟩, ⟨110, N, a2, b2⟩, ⟨111, [45], a3, b3⟩, ⟨111, [46], a4, b4⟩, ⟨119, [120], a5, b5⟩] := by
  have hnl := nl_num h
  have hcon : ∃ c q, N = c :: q ∧ dg c = true := by
    obtain ⟨da, db, P, rfl, ⟨hne, h1⟩, _⟩ := h
    obtain ⟨c, d, rfl⟩ := List.exists_cons_of_ne_nil hne
    exact ⟨c, _, rfl, h1 c (by simp)⟩
  have h0 : (0 : UInt8) ∉ 45 :: (N ++ [45, 46, 120]) := by
    obtain ⟨da, db, P, rfl, ⟨hne, h1⟩, h2, h3⟩ := h
    have hz : ∀ d : Bs, (∀ c ∈ d, dg c = true) → (0 : UInt8) ∉ d := fun d hd hm => absurd (hd 0 hm) (by decide)
    have hzP : (0 : UInt8) ∉ P := by
      rcases h3 with rfl | ⟨dc, ⟨_, h4⟩, rfl | rfl⟩
      · simp
      · have := hz dc h4; simp [this]
      · have := hz dc h4; simp [this]
    have := hz da h1
    have := hz db h2
    simp [*]
  obtain ⟨c, q, rfl, hc⟩ := hcon
  obtain ⟨hb1, _, _, _, _, h45, h47, _, hbl, _⟩ := dg_facts hc
  obtain ⟨F, hF⟩ : ∃ F, (45 :: ((c :: q) ++ [45, 46, 120])).length = F + 5 := ⟨q.length, by simp⟩
  rw [tokens, if_neg h0, hF]
  rw [toks_step (sk_first (by decide) (fun e => h45 (by simpa using e.2)) (fun e => absurd e.1 (by decide))) (tok_sign (by decide) (by decide) (by decide) (by decide) (fun e => absurd e.1 (by decide)) (by decide))]
  have t2 : token ((c :: q) ++ [45, 46, 120]) = some (110, c :: q, [45, 46, 120]) := by
    rw [List.cons_append, tok_num hc, ← List.cons_append, hnl, List.take_left, List.drop_left]
  have s2 : sk ((c :: q) ++ [45, 46, 120]) 0 = some ((c :: q) ++ [45, 46, 120]) := by
    rw [List.cons_append]
    exact sk_first hbl (fun e => h45 e.1) (fun e => h47 e.1)
  rw [List.cons_append] at t2 s2
  rw [List.cons_append, toks_step s2 t2]
  rw [toks_step (a := 45) (q := [46, 120]) (k := 111) (t := [45]) (r := [46, 120]) (by rfl) (by rfl)]
  rw [toks_step (a := 46) (q := [120]) (k := 111) (t := [46]) (r := [120]) (by rfl) (by rfl)]
  rw [toks_step (a := 120) (q := []) (k := 119) (t := [120]) (r := []) (by rfl) (by rfl)]
  rw [toks_done (by rfl)]
  exact ⟨_, _, _, _, _, _, _, _, _, _, rfl⟩
end Go.Proofs.YtpijolcklmdjbaaDoor
