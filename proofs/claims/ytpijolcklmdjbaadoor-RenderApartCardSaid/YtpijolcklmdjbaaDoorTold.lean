/- What Scan tells, and the rows of tokens that it leaves. -/
import Derived.Test.YtpijolcklmdjbaaDoorScan
namespace Go.Proofs.YtpijolcklmdjbaaDoor
open Go.RowKit Go.Lib Go.WideShapes

/-- What Scan tells: tokens, and what is wrong. -/
def told (l : Bs) : List Tok × Int := if 2000 < l.length then ([], 3) else match tokens l with
  | some ts => (ts, 0)
  | none => ([], 2)

/-- What Scan leaves. -/
def Read (w : World) (R : List Tok × Int) (e : Ending) (w' : World) : Prop := ∃ v, e = .returned (.tuple #[v, .int .i64 R.2]) ∧ w'.ownsRow w.heap.size 48 4 v R.1.length (tokC R.1) ∧ Below w.heap.size w w'

theorem scan_any (s : ByteArray) (m : Int) (w : World) (hs : s.size ≤ 9223372036854775807) (hm : w.cell? ⟨1, 0, none⟩ = some (.int .i64 m)) :
    Calls Tryd.prog 11 #[.string s] w (Read w (told (bytes s))) := by
  by_cases h : 2000 < s.size
  · have hR : told (bytes s) = ([], 3) := by unfold told; rw [if_pos (by rw [bytes_len]; exact h)]
    rw [hR]
    have h' : (2000 : Int) < s.size := by omega
    clear hR hm
    go_enter Tryd.func11, Tryd.ntmps11
    go_wp2_with fail
    go_ret2
    exact ⟨_, rfl, World.ownsRow_nil _ _ _ _, Below.refl _ _⟩
  · have hR : told (bytes s) = match tokens (bytes s) with | some ts => (ts, 0) | none => ([], 2) := by unfold told; rw [if_neg (by rw [bytes_len]; exact h)]
    rw [hR]
    have h' : (s.size : Int) ≤ 2000 := by omega
    have HT := Lib.hid (tokens_any s m w (by omega) hm)
    obtain ⟨R, hRR⟩ : ∃ R, R = tokens (bytes s) := ⟨_, rfl⟩
    rw [← hRR] at HT ⊢
    clear hR hm hRR
    go_enter Tryd.func11, Tryd.ntmps11
    go_wp2_with fail
    refine HT.out.mono ?_; rintro e w1 ⟨hS, hN, hB⟩
    have HB := Lib.hid hB
    clear hB
    cases R with
    | none =>
      obtain rfl := hN rfl
      clear hN hS HT
      go_wp2_with fail
      go_ret2
      exact ⟨_, rfl, World.ownsRow_nil _ _ _ _, HB.out⟩
    | some ts =>
      obtain ⟨v, rfl, hO⟩ := hS ts rfl
      have HO := Lib.hid hO
      clear hN hS hO HT
      go_wp2_with fail
      go_ret2
      exact ⟨_, rfl, HO.out, HB.out⟩

/-- The cells of a row of tokens. -/
theorem tok_cells {w : World} {B : Nat} {v : Value} {ts : List Tok} (h : w.ownsRow B 48 4 v ts.length (tokC ts)) (h0 : 0 < ts.length) :
    ∃ g cap, v = .slice (some ⟨g, 0, none⟩) ts.length cap ∧ ts.length ≤ cap ∧ cap ≤ 9223372036854775807 ∧ B ≤ g ∧ g < w.heap.size ∧ ∀ j u, (tokC ts)[j]? = some u → w.cell? ⟨g, j, none⟩ = some u := by
  have hr := h
  rcases h.2 with ⟨_, hn⟩ | ⟨g, cap, cur, rfl, hb, hg, hn, hc, _⟩
  · omega
  · refine ⟨g, cap, rfl, hn, by unfold maxLen at hc; omega, hb, (Array.getElem?_eq_some_iff.1 hg).1, fun j u hu => ?_⟩
    have := hr.cells (g := g) rfl j u hu
    rw [add_plain, Nat.zero_add] at this
    exact this

/-- What Scan tells of a text that is not too long: tokens, or none. -/
theorem scan_small (s : ByteArray) (m : Int) (w : World) (hs : s.size ≤ 2000) (hm : w.cell? ⟨1, 0, none⟩ = some (.int .i64 m)) :
    Calls Tryd.prog 11 #[.string s] w fun e w' => Below w.heap.size w w' ∧ ((tokens (bytes s) = none ∧ ∃ p c : _, e = .returned (.tuple #[.slice p 0 c, .int .i64 2])) ∨ ∃ L p c, tokens (bytes s) = some L ∧ e = .returned (.tuple #[.slice p L.length c, .int .i64 0]) ∧ L.length ≤ 9223372036854775807 ∧ w'.ownsRow w.heap.size 48 4 (.slice p L.length c) L.length (tokC L)) := by
  refine (scan_any s m w (by omega) hm).mono ?_
  rintro e w' ⟨v, rfl, hO, hB⟩
  refine ⟨hB, ?_⟩
  cases hT : tokens (bytes s) with
  | none =>
    have ht : told (bytes s) = ([], 2) := by unfold told; rw [if_neg (by rw [bytes_len]; omega), hT]
    rw [ht] at hO ⊢
    refine .inl ⟨rfl, ?_⟩
    rcases hO.2 with ⟨rfl, _⟩ | ⟨g, cap, cur, rfl, _⟩
    · exact ⟨none, 0, rfl⟩
    · exact ⟨_, _, rfl⟩
  | some L =>
    have ht : told (bytes s) = (L, 0) := by unfold told; rw [if_neg (by rw [bytes_len]; omega), hT]
    rw [ht] at hO ⊢
    refine .inr ?_
    have hr := hO
    rcases hO.2 with ⟨rfl, hn⟩ | ⟨g, cap, cur, rfl, _, _, hn, hc, _⟩
    · have hn : L.length = 0 := hn
      exact ⟨L, none, 0, rfl, by rw [hn], by omega, by rw [hn] at hr ⊢; exact hr⟩
    · have hn : L.length ≤ cap := hn
      exact ⟨L, _, cap, rfl, rfl, by unfold maxLen at hc; omega, hr⟩

/-- The cells of a row of tokens. -/
def TokAt (w : World) (p : Option Addr) (l : List Tok) : Prop := ∀ (i : Nat) (q : Tok), l[i]? = some q → ∃ g, p = some ⟨g, 0, none⟩ ∧ g < w.heap.size ∧ w.cell? ⟨g, i * 4, none⟩ = some (.int .u8 (q.kind.toNat : Nat)) ∧ w.cell? ⟨g, i * 4 + 1, none⟩ = some (.string ⟨q.text.toArray⟩) ∧ w.cell? ⟨g, i * 4 + 2, none⟩ = some (.int .i64 q.lo) ∧ w.cell? ⟨g, i * 4 + 3, none⟩ = some (.int .i64 q.hi)

theorem TokAt.step {w w' : World} {p : Option Addr} {l : List Tok} (h : TokAt w p l) (hb : Below w.heap.size w w') : TokAt w' p l := by
  intro i q hq
  obtain ⟨g, rfl, hg, h0, h1, h2, h3⟩ := h i q hq
  exact ⟨g, rfl, Nat.lt_of_lt_of_le hg hb.size, (hb.cell hg).trans h0, (hb.cell hg).trans h1, (hb.cell hg).trans h2, (hb.cell hg).trans h3⟩

theorem tokC_at : ∀ (l : List Tok) (i : Nat) (q : Tok), l[i]? = some q → (tokC l)[i * 4]? = some (.int .u8 (q.kind.toNat : Nat)) ∧ (tokC l)[i * 4 + 1]? = some (.string ⟨q.text.toArray⟩) ∧ (tokC l)[i * 4 + 2]? = some (.int .i64 q.lo) ∧ (tokC l)[i * 4 + 3]? = some (.int .i64 q.hi) := by
  intro l
  induction l with
  | nil => intro i q h; cases h
  | cons t l ih =>
    intro i q h
    cases i with
    | zero => cases h; exact ⟨rfl, rfl, rfl, rfl⟩
    | succ i =>
      obtain ⟨h0, h1, h2, h3⟩ := ih i q h
      have e : ∀ k, (tokC (t :: l))[(i + 1) * 4 + k]? = (tokC l)[i * 4 + k]? := by
        intro k
        rw [show (i + 1) * 4 + k = (i * 4 + k) + 4 by omega]
        rfl
      exact ⟨(e 0).trans h0, (e 1).trans h1, (e 2).trans h2, (e 3).trans h3⟩

theorem toks_facts : ∀ (f n : Nat) (l : Bs) (ts : List Tok), toks f n l = some ts → ts.length ≤ l.length ∧ ∀ q ∈ ts, q.lo ≤ n ∧ q.hi ≤ n := by
  intro f
  induction f with
  | zero => intro n l ts h; cases h
  | succ f ih =>
    intro n l ts h
    rw [toks_tk] at h
    cases hs : sk l 0 with
    | none => rw [hs] at h; cases h
    | some q =>
      rw [hs] at h
      obtain ⟨j, hj, hjl⟩ := sk_sub l q hs
      have h0 := congrArg List.length hj
      rw [List.length_drop] at h0
      cases q with
      | nil => cases h; exact ⟨Nat.zero_le _, fun q hq => by cases hq⟩
      | cons a q =>
        have h : tk f n (a :: q) = some ts := h
        rw [tk] at h
        cases ht : token (a :: q) with
        | none => rw [ht] at h; cases h
        | some p =>
          obtain ⟨k, t, r⟩ := p
          obtain ⟨e, he1, he, hel⟩ := token_sub ht
          have h1 := congrArg List.length he
          rw [List.length_drop] at h1
          rw [ht] at h
          have h : (toks f n r).map _ = some ts := h
          cases hr : toks f n r with
          | none => rw [hr] at h; cases h
          | some ts' =>
            rw [hr] at h
            cases h
            obtain ⟨g1, g2⟩ := ih n r ts' hr
            refine ⟨by rw [List.length_cons]; omega, fun q hq => ?_⟩
            rcases List.mem_cons.1 hq with rfl | hq
            · exact ⟨Nat.sub_le _ _, Nat.sub_le _ _⟩
            · exact g2 q hq

theorem tokens_facts {l : Bs} {ts : List Tok} (h : tokens l = some ts) : ts.length ≤ l.length ∧ ∀ q ∈ ts, q.lo ≤ l.length ∧ q.hi ≤ l.length := by
  unfold tokens at h
  split at h
  · cases h
  · exact toks_facts _ _ _ _ h

theorem scan_rows (s : ByteArray) (m : Int) (w : World) (hs : s.size ≤ 2000) (hm : w.cell? ⟨1, 0, none⟩ = some (.int .i64 m)) :
    Calls Tryd.prog 11 #[.string s] w fun e w' => Below w.heap.size w w' ∧ ((tokens (bytes s) = none ∧ ∃ p c : _, e = .returned (.tuple #[.slice p 0 c, .int .i64 2])) ∨ ∃ (L : List Tok) (n : Nat) (p : _) (c : _), tokens (bytes s) = some L ∧ L.length = n ∧ n ≤ 2000 ∧ e = .returned (.tuple #[.slice p n c, .int .i64 0]) ∧ TokAt w' p L) := by
  refine (scan_small s m w hs hm).mono ?_
  rintro e w' ⟨hB, h | ⟨L, p, c, hT, rfl, hL, hO⟩⟩
  · exact ⟨hB, .inl h⟩
  · refine ⟨hB, .inr ⟨L, L.length, p, c, hT, rfl, ?_, rfl, fun i q hq => ?_⟩⟩
    · have := (tokens_facts hT).1
      rw [bytes_len] at this
      omega
    · have h0 : 0 < L.length := Nat.lt_of_le_of_lt (Nat.zero_le i) (List.getElem?_eq_some_iff.1 hq).1
      obtain ⟨g, cap, hv, _, _, _, hg, hc⟩ := tok_cells hO h0
      cases hv
      obtain ⟨h0, h1, h2, h3⟩ := tokC_at L i q hq
      exact ⟨g, rfl, hg, hc _ _ h0, hc _ _ h1, hc _ _ h2, hc _ _ h3⟩


/-- Tokens from a place of a row on. -/
def TokOff (w : World) (p : Option Addr) (l : List Tok) : Prop := l = [] ∨ ∃ g off, p = some ⟨g, off, none⟩ ∧ g < w.heap.size ∧ ∀ (i : Nat) (q : Tok), l[i]? = some q → w.cell? ⟨g, off + i * 4, none⟩ = some (.int .u8 (q.kind.toNat : Nat)) ∧ w.cell? ⟨g, off + i * 4 + 1, none⟩ = some (.string ⟨q.text.toArray⟩) ∧ w.cell? ⟨g, off + i * 4 + 2, none⟩ = some (.int .i64 q.lo) ∧ w.cell? ⟨g, off + i * 4 + 3, none⟩ = some (.int .i64 q.hi)

theorem TokAt.off {w : World} {p : Option Addr} {l : List Tok} (h : TokAt w p l) : TokOff w p l := by
  cases l with
  | nil => exact .inl rfl
  | cons t l =>
    obtain ⟨g, hp, hg, _⟩ := h 0 t rfl
    refine .inr ⟨g, 0, hp, hg, fun i q hq => ?_⟩
    obtain ⟨g', hp', _, h0⟩ := h i q hq
    rw [hp] at hp'
    cases hp'
    rw [Nat.zero_add]
    exact h0

theorem TokOff.step {w w' : World} {p : Option Addr} {l : List Tok} (h : TokOff w p l) (hb : Below w.heap.size w w') : TokOff w' p l := by
  rcases h with h | ⟨g, off, hp, hg, hc⟩
  · exact .inl h
  · refine .inr ⟨g, off, hp, Nat.lt_of_lt_of_le hg hb.size, fun i q hq => ?_⟩
    obtain ⟨h0, h1, h2, h3⟩ := hc i q hq
    exact ⟨(hb.cell hg).trans h0, (hb.cell hg).trans h1, (hb.cell hg).trans h2, (hb.cell hg).trans h3⟩

theorem TokOff.take {w : World} {p : Option Addr} {l : List Tok} (h : TokOff w p l) (k : Nat) : TokOff w p (l.take k) := by
  rcases h with rfl | ⟨g, off, hp, hg, hc⟩
  · exact .inl (by simp)
  · refine .inr ⟨g, off, hp, hg, fun i q hq => hc i q ?_⟩
    rw [List.getElem?_take] at hq
    split at hq
    · exact hq
    · cases hq

theorem TokOff.drop {w : World} {g off : Nat} {l : List Tok} (h : TokOff w (some ⟨g, off, none⟩) l) (k : Nat) : TokOff w (some ⟨g, off + k * 4, none⟩) (l.drop k) := by
  rcases h with rfl | ⟨g, off, hp, hg, hc⟩
  · exact .inl (by simp)
  · cases hp
    refine .inr ⟨_, _, rfl, hg, fun i q hq => ?_⟩
    rw [List.getElem?_drop] at hq
    have := hc (k + i) q hq
    rw [show off + k * 4 + i * 4 = off + (k + i) * 4 by omega]
    exact this

end Go.Proofs.YtpijolcklmdjbaaDoor
