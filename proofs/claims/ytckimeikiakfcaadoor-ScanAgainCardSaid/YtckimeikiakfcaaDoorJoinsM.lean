/- The statements of two texts, a sign between, and each statement cut out: mathematics. -/
import Derived.Test.YtckimeikiakfcaaDoorPartM
namespace Go.Proofs.YtckimeikiakfcaaDoor

theorem tokens_semi1 (l : Bs) : tokens (59 :: l) = (tokens l).map fun R => (⟨111, [59], 0, 1⟩ : Tok) :: R.map (moved 1) := by
  unfold tokens
  by_cases h0 : (0 : UInt8) ∈ l
  · rw [if_pos h0, if_pos (by simp [h0])]; rfl
  · rw [if_neg h0, if_neg (by simp [h0])]
    rw [toks_step (a := 59) (q := l) (sk_first (by decide) (fun e => by cases e.1) (fun e => by cases e.1)) (token_sign_read 59 l (by decide) (by decide) (by decide) (by decide) (by simp [dg]) (by decide))]
    rw [show (59 :: l).length = l.length + 1 from rfl, toks_moved _ _ _ _ (Nat.le_refl _), Option.map_map]
    congr 1
    funext R
    show (⟨111, [59], _, _⟩ : Tok) :: _ = _
    congr 1
    rw [Tok.mk.injEq]
    simp only [List.length_cons]
    exact ⟨trivial, trivial, by omega, by omega⟩

/-- The statements of both. -/
theorem joins_all {s t : Bs} {TA TB : List Tok} (hA : tokens s = some TA) (hB : tokens t = some TB) : ∃ T', tokens (s ++ 10 :: 59 :: t) = some T' ∧ splits T' = splits TA ++ (splits TB).map (List.map (moved (s.length + 2))) := by
  refine ⟨_, by rw [tokens_join s (59 :: t) hA, tokens_semi1, hB]; rfl, ?_⟩
  show splits (TA ++ ((⟨111, [59], 0, 1⟩ : Tok) :: TB.map (moved 1)).map (moved (s.length + 1))) = _
  rw [List.map_cons, map_moved, splits_join _ TA _ _ (Nat.le_refl _) rfl, splits_moved _ _ TB (Nat.le_refl _), show 1 + (s.length + 1) = s.length + 2 by omega]

/-- A statement stands in the row of tokens. -/
theorem splits_infix : ∀ (n : Nat) (T : List Tok), T.length ≤ n → ∀ X ∈ splits T, ∃ A B, T = A ++ X ++ B := by
  intro n
  induction n with
  | zero =>
    intro T hT X hX
    obtain rfl := List.length_eq_zero_iff.1 (Nat.le_zero.1 hT)
    cases hX
  | succ n ih =>
    intro T hT X hX
    by_cases h0 : T = []
    · subst h0; cases hX
    have hp : 0 < T.length := List.length_pos_iff.2 h0
    rw [splits_step h0] at hX
    rcases List.mem_append.1 hX with hX | hX
    · split at hX
      · cases hX
      · obtain rfl := List.mem_singleton.1 hX
        exact ⟨[], T.drop (semiAt T), by rw [List.nil_append, List.take_append_drop]⟩
    · obtain ⟨A, B, h⟩ := ih _ (by rw [List.length_drop]; omega) X hX
      refine ⟨T.take (min (semiAt T + 1) T.length) ++ A, B, ?_⟩
      conv => lhs; rw [← List.take_append_drop (min (semiAt T + 1) T.length) T, h]
      simp only [List.append_assoc]

theorem st_hi (y : St) : y.hi = (lastHi 0 y.toks : Nat) := by
  unfold St.hi lastHi
  cases y.toks.getLast? <;> rfl

/-- A statement that is cut out is the one statement that is there. -/
theorem cut_st {l : Bs} {T : List Tok} (h : tokens l = some T) {y : St} (hy : y.toks ∈ splits T) : ∃ lo hi : Nat, y.lo = lo ∧ y.hi = hi ∧ lo < hi ∧ hi ≤ l.length ∧ y.toks.length ≤ l.length ∧ (∀ q ∈ y.toks, q.text.length ≤ l.length) ∧
    ∃ X0, tokens ((l.drop lo).take (hi - lo)) = some X0 ∧ splits X0 = [X0] ∧ X0.map kt = y.toks.map kt ∧ ∀ z : St, z.toks = X0 → z.lo = 0 ∧ z.hi = ((hi - lo : Nat) : Int) := by
  obtain ⟨h1, h2, h3⟩ := splits_mem _ T (Nat.le_refl _) _ hy
  obtain ⟨A, B, hT⟩ := splits_infix _ T (Nat.le_refl _) _ hy
  obtain ⟨x, X, hX⟩ := List.exists_cons_of_ne_nil h1
  have hlen := (tokens_facts h).1
  have hsm := tokens_small h
  rw [hT, hX] at h
  obtain ⟨e1, e2, e3, e4, X0, e5, e6⟩ := tokens_part h
  have hlo : y.lo = (x.lo : Nat) := by unfold St.lo; rw [hX]; rfl
  have hhi := st_hi y
  rw [hX] at hhi
  have hk : X0.map kt = (x :: X).map kt := by rw [← e6, List.map_map]; rfl
  have h0 : X0 ≠ [] := by intro e; rw [e] at e6; cases e6
  have hf : ∀ t ∈ X0, semi t = false := by
    intro t ht
    have : semi (moved x.lo t) = false := (h2 _ (by rw [hX, ← e6]; exact List.mem_map_of_mem ht)).2
    exact this
  refine ⟨x.lo, lastHi 0 (x :: X), hlo, hhi, e1, e2, by omega, fun q hq => hsm q (h2 q hq).1, X0, e5, splits_free h0 hf, by rw [hk, hX], fun z hz => ?_⟩
  have hm := st_moved (x := z) (y := y) (d := x.lo) (by rw [hz]; exact h0) (by rw [hz, hX, e6])
  rw [hlo, hhi] at hm
  omega

theorem jb_cat (a b : ByteArray) : bytes (a ++ b) = bytes a ++ bytes b := by simp [bytes]
theorem jbytes_inj {a b : ByteArray} (h : bytes a = bytes b) : a = b := ByteArray.ext (Array.toList_inj.1 h)
theorem bytes_cut (a : ByteArray) (i j : Nat) : bytes (a.extract i j) = ((bytes a).drop i).take (j - i) := by
  unfold bytes
  rw [ByteArray.data_extract, Array.toList_extract]
theorem cut_left (s t : ByteArray) (i j : Nat) (h : j ≤ s.size) : ((s ++ ({ data := #[10, 59] } : ByteArray)) ++ t).extract i j = s.extract i j := by
  apply jbytes_inj
  rw [bytes_cut, bytes_cut, jb_cat, jb_cat, List.append_assoc]
  have hl : (bytes s).length = s.size := bytes_len s
  by_cases hi : i ≤ s.size
  · rw [List.drop_append_of_le_length (by omega), List.take_append_of_le_length (by rw [List.length_drop]; omega)]
  · rw [show j - i = 0 by omega]; simp
theorem cut_right (s t : ByteArray) (i j : Nat) : ((s ++ ({ data := #[10, 59] } : ByteArray)) ++ t).extract (i + (s.size + 2)) (j + (s.size + 2)) = t.extract i j := by
  apply jbytes_inj
  rw [bytes_cut, bytes_cut, jb_cat]
  have hl : (bytes (s ++ ({ data := #[10, 59] } : ByteArray))).length = s.size + 2 := by rw [bytes_len, ByteArray.size_append]; rfl
  rw [show i + (s.size + 2) = (bytes (s ++ ({ data := #[10, 59] } : ByteArray))).length + i by omega, List.drop_append]
  rw [List.drop_eq_nil_of_le (by omega), List.nil_append]
  congr 1
  · omega
  · congr 1; omega
theorem joins_bytes (s t : ByteArray) : bytes ((s ++ ({ data := #[10, 59] } : ByteArray)) ++ t) = bytes s ++ 10 :: 59 :: bytes t := by
  rw [jb_cat, jb_cat]; simp [bytes]
end Go.Proofs.YtckimeikiakfcaaDoor
