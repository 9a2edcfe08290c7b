/- A part of a text has the tokens that stand in it; between two tokens there are none: mathematics. -/
import Derived.Test.YtgopajddloeclaaDoorLCutT
namespace Go.Proofs.YtgopajddloeclaaDoor

theorem toks_at {f n : Nat} {r : Bs} {x : Tok} {X : List Tok} (h : toks f n r = some (x :: X)) : ∃ (g : Nat) (p : Bs) (a : UInt8) (q r' : Bs), f = g + 1 ∧ r = p ++ a :: q ∧ sk r 0 = some (a :: q) ∧ token (a :: q) = some (x.kind, x.text, r') ∧ x.lo = n - (a :: q).length ∧ x.hi = n - r'.length ∧ toks g n r' = some X := by
  cases f with
  | zero => cases h
  | succ g =>
    rw [toks_tk] at h
    cases hs : sk r 0 with
    | none => rw [hs] at h; cases h
    | some q =>
      rw [hs] at h
      obtain ⟨j, hjd, hjl⟩ := sk_sub r q hs
      have h : tk g n q = some (x :: X) := h
      cases q with
      | nil => cases h
      | cons a q =>
        rw [tk] at h
        cases ht : token (a :: q) with
        | none => rw [ht] at h; cases h
        | some p =>
          obtain ⟨k, t, r'⟩ := p
          rw [ht] at h
          have h : (toks g n r').map _ = some (x :: X) := h
          cases hr : toks g n r' with
          | none => rw [hr] at h; cases h
          | some L' =>
            rw [hr] at h
            simp only [Option.map_some, Option.some.injEq, List.cons.injEq] at h
            obtain ⟨rfl, rfl⟩ := h
            exact ⟨g, r.take j, a, q, r', rfl, by rw [hjd, List.take_append_drop], rfl, ht, rfl, rfl, hr⟩

theorem toks_span : ∀ (f n : Nat) (l : Bs) (ts : List Tok), l.length ≤ n → toks f n l = some ts → ∀ q ∈ ts, n - l.length ≤ q.lo ∧ q.lo < q.hi ∧ q.hi ≤ n := by
  intro f
  induction f with
  | zero => intro n l ts _ h; cases h
  | succ f ih =>
    intro n l ts hl h q hq
    cases ts with
    | nil => cases hq
    | cons x X =>
      obtain ⟨g, p, a, w, r', hg, hr, hs, ht, h1, h2, h3⟩ := toks_at h
      obtain rfl : f = g := by omega
      have e1 := congrArg List.length hr
      rw [List.length_append] at e1
      obtain ⟨e, he1, he, hel⟩ := token_sub ht
      have e2 := congrArg List.length he
      rw [List.length_drop] at e2
      rcases List.mem_cons.1 hq with rfl | hq
      · omega
      · have := ih n r' X (by omega) h3 q hq; omega

/-- Where the last one of a row ends. -/
def lastHi (e : Nat) (A : List Tok) : Nat := (A.getLast?.map Tok.hi).getD e
theorem lastHi_nil (e : Nat) : lastHi e [] = e := rfl
theorem lastHi_cons (e : Nat) (x : Tok) (A : List Tok) : lastHi e (x :: A) = lastHi x.hi A := by
  unfold lastHi
  cases A with
  | nil => rfl
  | cons y A => rw [List.getLast?_cons_cons, List.getLast?_eq_some_getLast (l := y :: A) (by simp)]; rfl

theorem toks_rest : ∀ (A : List Tok) (f n : Nat) (l : Bs) (X : List Tok), l.length ≤ n → toks f n l = some (A ++ X) → ∃ g d, d ≤ l.length ∧ toks g n (l.drop d) = some X ∧ n - (l.drop d).length = lastHi (n - l.length) A := by
  intro A
  induction A with
  | nil => intro f n l X hl h; exact ⟨f, 0, Nat.zero_le _, h, rfl⟩
  | cons x A ih =>
    intro f n l X hl h
    obtain ⟨g, p, a, w, r', hg, hr, hs, ht, h1, h2, h3⟩ := toks_at h
    have e1 := congrArg List.length hr
    rw [List.length_append] at e1
    obtain ⟨e, he1, he, hel⟩ := token_sub ht
    have e2 := congrArg List.length he
    rw [List.length_drop] at e2
    obtain ⟨g', d, hd, h4, h5⟩ := ih g n r' X (by omega) h3
    have hrr : r' = l.drop (p.length + e) := by rw [hr, List.drop_append, List.drop_eq_nil_of_le (by omega), List.nil_append, he]; congr 1; omega
    have e3 : r'.drop d = l.drop (p.length + e + d) := by rw [hrr, List.drop_drop]
    refine ⟨g', p.length + e + d, by omega, by rw [← e3]; exact h4, ?_⟩
    rw [← e3, lastHi_cons, h2]; exact h5

theorem split_suffix {p w l z : Bs} (h : p ++ w = l ++ z) (hz : z.length ≤ w.length) : ∃ w0, w = w0 ++ z ∧ l = p ++ w0 := by
  rcases List.append_eq_append_iff.1 h with ⟨u, h1, h2⟩ | ⟨u, h1, h2⟩
  · exact ⟨u, h2, h1⟩
  · have := congrArg List.length h2
    rw [List.length_append] at this
    obtain rfl : u = [] := List.length_eq_zero_iff.1 (by omega)
    exact ⟨[], by rw [h2]; rfl, by rw [h1]; simp⟩

theorem toks_cut (z : Bs) : ∀ (f n : Nat) (l : Bs) (X B : List Tok), (l ++ z).length ≤ n → toks f n (l ++ z) = some (X ++ B) → X ≠ [] → lastHi 0 X = n - z.length → ∀ F, l.length < F → toks F (n - z.length) l = some X := by
  intro f
  induction f with
  | zero => intro n l X B _ h; cases h
  | succ f ih =>
    intro n l X B hn h h0 hl F hF
    rw [List.length_append] at hn
    cases X with
    | nil => exact absurd rfl h0
    | cons x X =>
      obtain ⟨g, p, a, w, r, hg, hr, hs, ht, h1, h2, h3⟩ := toks_at h
      obtain rfl : f = g := by omega
      obtain ⟨e, he1, he, hel⟩ := token_sub ht
      have e2 := congrArg List.length he
      rw [List.length_drop] at e2
      have e1 := congrArg List.length hr
      rw [List.length_append, List.length_append] at e1
      have hspan := toks_span f n r _ (by omega) h3
      have hrz : z.length ≤ r.length := by
        rw [lastHi_cons] at hl
        cases X with
        | nil => rw [lastHi_nil] at hl; omega
        | cons y X =>
          have hm : (y :: X).getLast (by simp) ∈ (y :: X) ++ B := List.mem_append.2 (.inl (List.getLast_mem _))
          have := hspan _ hm
          have hv : lastHi x.hi (y :: X) = ((y :: X).getLast (by simp)).hi := by unfold lastHi; rw [List.getLast?_eq_some_getLast (l := y :: X) (by simp)]; rfl
          rw [hv] at hl
          omega
      have hwr : r.length ≤ w.length := by simp only [List.length_cons] at e2; omega
      obtain ⟨w1, hw1, hl1⟩ := split_suffix hr.symm (by simp only [List.length_cons]; omega)
      cases w1 with
      | nil => have := congrArg List.length hw1; simp only [List.length_cons, List.nil_append] at this; omega
      | cons b w0 =>
        rw [List.cons_append, List.cons.injEq] at hw1
        obtain ⟨rfl, rfl⟩ := hw1
        have hed : e ≤ (a :: w0).length := by
          simp only [List.length_cons, List.length_append] at e2 hel hwr ⊢
          omega
        rw [← List.cons_append, List.drop_append_of_le_length hed] at he
        generalize hr0 : (a :: w0).drop e = r0 at he
        subst he
        subst hl1
        rw [List.append_assoc, List.cons_append] at hs
        have hs1 := (sk_cut a w0 z _ p 0 (Nat.le_refl _) hs).2
        have ht1 := token_cut (l := a :: w0) (r := r0) ht
        have hl0 : r0.length < (a :: w0).length := by rw [← hr0, List.length_drop]; simp only [List.length_cons] at hed ⊢; omega
        simp only [List.length_append, List.length_cons] at *
        obtain ⟨F, rfl⟩ : ∃ G, F = G + 1 := ⟨F - 1, by omega⟩
        rw [toks_step hs1 ht1]
        have hx : (⟨x.kind, x.text, n - z.length - (a :: w0).length, n - z.length - r0.length⟩ : Tok) = x := by
          obtain ⟨xk, xt, xl, xh⟩ := x
          simp only [Tok.mk.injEq, List.length_cons]
          simp only at h1 h2
          exact ⟨trivial, trivial, by omega, by omega⟩
        rw [hx]
        rw [lastHi_cons] at hl
        cases X with
        | nil =>
          rw [lastHi_nil] at hl
          have : r0 = [] := List.length_eq_zero_iff.1 (by omega)
          subst this
          obtain ⟨G, rfl⟩ : ∃ G, F = G + 1 := ⟨F - 1, by omega⟩
          rw [toks_done rfl]; rfl
        | cons y X =>
          have hv : lastHi 0 (y :: X) = lastHi x.hi (y :: X) := by unfold lastHi; rw [List.getLast?_eq_some_getLast (l := y :: X) (by simp)]; rfl
          rw [ih n r0 (y :: X) B (by omega) h3 (by simp) (hv.trans hl) F (by omega)]; rfl

/-- A part of a text, from a token's first byte to a token's last one. -/
theorem tokens_part {s : Bs} {A X B : List Tok} {x : Tok} (h : tokens s = some (A ++ (x :: X) ++ B)) : x.lo < lastHi 0 (x :: X) ∧ lastHi 0 (x :: X) ≤ s.length ∧ lastHi 0 A ≤ x.lo ∧
    tokens ((s.drop (lastHi 0 A)).take (x.lo - lastHi 0 A)) = some [] ∧
    ∃ X0, tokens ((s.drop x.lo).take (lastHi 0 (x :: X) - x.lo)) = some X0 ∧ X0.map (moved x.lo) = x :: X := by
  unfold tokens at h
  split at h
  · cases h
  rename_i h0
  rw [List.append_assoc] at h
  obtain ⟨g, d, hd, h1, h2⟩ := toks_rest A _ _ s _ (Nat.le_refl _) h
  rw [List.length_drop, Nat.sub_self] at h2
  have hdl : lastHi 0 A = d := by omega
  rw [hdl]
  obtain ⟨g', p, a, q, r, hg, hr, hs, ht, e1, e2, h3⟩ := toks_at h1
  have hpl := congrArg List.length hr
  rw [List.length_drop, List.length_append] at hpl
  have hxd : x.lo = d + p.length := by omega
  have hdr : s.drop x.lo = a :: q := by rw [hxd, ← List.drop_drop, hr, List.drop_left]
  have h4 : toks g s.length (a :: q) = some (x :: X ++ B) := by
    rw [hg, toks_tk, sk_idem _ _ _ _ _ (Nat.le_refl _) hs, ← hs, ← toks_tk, ← hg]; exact h1
  have hql : (a :: q).length ≤ s.length := by rw [← hdr, List.length_drop]; omega
  have hsp := toks_span g s.length (a :: q) _ hql h4
  have hm : (x :: X).getLast (by simp) ∈ (x :: X) ++ B := List.mem_append.2 (.inl (List.getLast_mem _))
  have hv : lastHi 0 (x :: X) = ((x :: X).getLast (by simp)).hi := by unfold lastHi; rw [List.getLast?_eq_some_getLast (l := x :: X) (by simp)]; rfl
  have hz := hsp _ hm
  rw [← hv] at hz
  have hq2 := congrArg List.length hdr
  rw [List.length_drop] at hq2
  refine ⟨by omega, hz.2.2, by omega, ?_, ?_⟩
  · have hp : (s.drop d).take (x.lo - d) = p := by rw [hr, show x.lo - d = p.length by omega, List.take_left]
    rw [hp]
    rw [hr] at hs
    have := (sk_cut a q [] _ p 0 (Nat.le_refl _) (by rw [List.append_nil]; exact hs)).1
    unfold tokens
    rw [if_neg, toks_done this]
    intro hz0
    refine h0 (List.mem_of_mem_drop (i := d) ?_)
    rw [hr]
    exact List.mem_append.2 (.inl hz0)
  · generalize hH : lastHi 0 (x :: X) = hi at hz ⊢
    rw [hdr]
    have hsplit := List.take_append_drop (hi - x.lo) (a :: q)
    have hzl : ((a :: q).drop (hi - x.lo)).length = s.length - hi := by rw [List.length_drop]; omega
    have hll : ((a :: q).take (hi - x.lo)).length = hi - x.lo := by rw [List.length_take]; omega
    generalize (a :: q).take (hi - x.lo) = l at hsplit hll ⊢
    generalize (a :: q).drop (hi - x.lo) = z at hsplit hzl
    rw [← hsplit] at h4
    have h5 := toks_cut z g s.length l (x :: X) B (by rw [hsplit]; exact hql) h4 (by simp) (by omega) (l.length + 1) (by omega)
    rw [hzl, show s.length - (s.length - hi) = l.length + x.lo by omega, toks_moved _ _ _ _ (Nat.le_refl _)] at h5
    unfold tokens
    rw [if_neg]
    · cases ht0 : toks (l.length + 1) l.length l with
      | none => rw [ht0] at h5; cases h5
      | some X0 => rw [ht0] at h5; exact ⟨X0, rfl, Option.some.inj h5⟩
    · intro hz0
      refine h0 (List.mem_of_mem_drop (i := x.lo) ?_)
      rw [hdr, ← hsplit]
      exact List.mem_append.2 (.inl hz0)
end Go.Proofs.YtgopajddloeclaaDoor
