/- Contracts and mathematics: Told, NTake, PM. -/
import Derived.Test.YtgopajddloeclaaDoorZ11
import Derived.Test.YtgopajddloeclaaDoorZ4
namespace Go.Proofs.YtgopajddloeclaaDoor
open Go.RowKit Go.Lib Go.WideShapes

/-- What Scan tells: tokens, and what is wrong. -/
def told (l : Bs) : List Tok × Int := if 2000 < l.length then ([], 3) else match tokens l with
  | some ts => (ts, 0)
  | none => ([], 2)

/-- What Scan leaves. -/
def Read (w : World) (R : List Tok × Int) (e : Ending) (w' : World) : Prop := ∃ v, e = .returned (.tuple #[v, .int .i64 R.2]) ∧ w'.ownsRow w.heap.size 25 4 v R.1.length (tokC R.1) ∧ Below w.heap.size w w'

theorem scan_any (s : ByteArray) (m : Int) (w : World) (hs : s.size ≤ 9223372036854775807) (hm : w.cell? ⟨2, 0, none⟩ = some (.int .i64 m)) :
    Calls Tryd.prog 17 #[.string s] w (Read w (told (bytes s))) := by
  by_cases h : 2000 < s.size
  · have hR : told (bytes s) = ([], 3) := by unfold told; rw [if_pos (by rw [bytes_len]; exact h)]
    rw [hR]
    have h' : (2000 : Int) < s.size := by omega
    clear hR hm
    go_enter Tryd.func17, Tryd.ntmps17
    go_wp2_with fail
    go_ret2
    exact ⟨_, rfl, World.ownsRow_nil _ _ _ _, Below.refl _ _⟩
  · have hR : told (bytes s) = match tokens (bytes s) with | some ts => (ts, 0) | none => ([], 2) := by unfold told; rw [if_neg (by rw [bytes_len]; exact h)]
    rw [hR]
    have h' : (s.size : Int) ≤ 2000 := by omega
    have HT := Lib.hid (tokens_any s m w (by omega) hm)
    obtain ⟨R, hRR⟩ : ∃ R, R = tokens (bytes s) := ⟨_, rfl⟩
    rw [← hRR] at HT ⊢
    clear hR hm hRR
    go_enter Tryd.func17, Tryd.ntmps17
    go_wp2_with fail
    refine HT.out.mono ?_; rintro e w1 ⟨hS, hN, hB⟩
    have HB := Lib.hid hB
    clear hB
    cases R with
    | none =>
      obtain rfl := hN rfl
      clear hN hS HT
      go_wp2_with fail
      go_ret2
      exact ⟨_, rfl, World.ownsRow_nil _ _ _ _, HB.out⟩
    | some ts =>
      obtain ⟨v, rfl, hO⟩ := hS ts rfl
      have HO := Lib.hid hO
      clear hN hS hO HT
      go_wp2_with fail
      go_ret2
      exact ⟨_, rfl, HO.out, HB.out⟩

/-- The cells of a row of tokens. -/
theorem tok_cells {w : World} {B : Nat} {v : Value} {ts : List Tok} (h : w.ownsRow B 25 4 v ts.length (tokC ts)) (h0 : 0 < ts.length) :
    ∃ g cap, v = .slice (some ⟨g, 0, none⟩) ts.length cap ∧ ts.length ≤ cap ∧ cap ≤ 9223372036854775807 ∧ B ≤ g ∧ g < w.heap.size ∧ ∀ j u, (tokC ts)[j]? = some u → w.cell? ⟨g, j, none⟩ = some u := by
  have hr := h
  rcases h.2 with ⟨_, hn⟩ | ⟨g, cap, cur, rfl, hb, hg, hn, hc, _⟩
  · omega
  · refine ⟨g, cap, rfl, hn, by unfold maxLen at hc; omega, hb, (Array.getElem?_eq_some_iff.1 hg).1, fun j u hu => ?_⟩
    have := hr.cells (g := g) rfl j u hu
    rw [Go.WideShapes.add_plain, Nat.zero_add] at this
    exact this

/-- What Scan tells of a text that is not too long: tokens, or none. -/
theorem scan_small (s : ByteArray) (m : Int) (w : World) (hs : s.size ≤ 2000) (hm : w.cell? ⟨2, 0, none⟩ = some (.int .i64 m)) :
    Calls Tryd.prog 17 #[.string s] w fun e w' => Below w.heap.size w w' ∧ ((tokens (bytes s) = none ∧ ∃ p c : _, e = .returned (.tuple #[.slice p 0 c, .int .i64 2])) ∨ ∃ L p c, tokens (bytes s) = some L ∧ e = .returned (.tuple #[.slice p L.length c, .int .i64 0]) ∧ L.length ≤ 9223372036854775807 ∧ w'.ownsRow w.heap.size 25 4 (.slice p L.length c) L.length (tokC L)) := by
  refine (scan_any s m w (by omega) hm).mono ?_
  rintro e w' ⟨v, rfl, hO, hB⟩
  refine ⟨hB, ?_⟩
  cases hT : tokens (bytes s) with
  | none =>
    have ht : told (bytes s) = ([], 2) := by unfold told; rw [if_neg (by rw [bytes_len]; omega), hT]
    rw [ht] at hO ⊢
    refine .inl ⟨rfl, ?_⟩
    rcases hO.2 with ⟨rfl, _⟩ | ⟨g, cap, cur, rfl, _⟩
    · exact ⟨none, 0, rfl⟩
    · exact ⟨_, _, rfl⟩
  | some L =>
    have ht : told (bytes s) = (L, 0) := by unfold told; rw [if_neg (by rw [bytes_len]; omega), hT]
    rw [ht] at hO ⊢
    refine .inr ?_
    have hr := hO
    rcases hO.2 with ⟨rfl, hn⟩ | ⟨g, cap, cur, rfl, _, _, hn, hc, _⟩
    · have hn : L.length = 0 := hn
      exact ⟨L, none, 0, rfl, by rw [hn], by omega, by rw [hn] at hr ⊢; exact hr⟩
    · have hn : L.length ≤ cap := hn
      exact ⟨L, _, cap, rfl, rfl, by unfold maxLen at hc; omega, hr⟩

/-- The cells of a row of tokens. -/
def TokAt (w : World) (p : Option Addr) (l : List Tok) : Prop := ∀ (i : Nat) (q : Tok), l[i]? = some q → ∃ g, p = some ⟨g, 0, none⟩ ∧ g < w.heap.size ∧ w.cell? ⟨g, i * 4, none⟩ = some (.int .u8 (q.kind.toNat : Nat)) ∧ w.cell? ⟨g, i * 4 + 1, none⟩ = some (.string ⟨q.text.toArray⟩) ∧ w.cell? ⟨g, i * 4 + 2, none⟩ = some (.int .i64 q.lo) ∧ w.cell? ⟨g, i * 4 + 3, none⟩ = some (.int .i64 q.hi)

theorem TokAt.step {w w' : World} {p : Option Addr} {l : List Tok} (h : TokAt w p l) (hb : Below w.heap.size w w') : TokAt w' p l := by
  intro i q hq
  obtain ⟨g, rfl, hg, h0, h1, h2, h3⟩ := h i q hq
  exact ⟨g, rfl, Nat.lt_of_lt_of_le hg hb.size, (hb.cell hg).trans h0, (hb.cell hg).trans h1, (hb.cell hg).trans h2, (hb.cell hg).trans h3⟩

theorem tokC_at : ∀ (l : List Tok) (i : Nat) (q : Tok), l[i]? = some q → (tokC l)[i * 4]? = some (.int .u8 (q.kind.toNat : Nat)) ∧ (tokC l)[i * 4 + 1]? = some (.string ⟨q.text.toArray⟩) ∧ (tokC l)[i * 4 + 2]? = some (.int .i64 q.lo) ∧ (tokC l)[i * 4 + 3]? = some (.int .i64 q.hi) := by
  intro l
  induction l with
  | nil => intro i q h; cases h
  | cons t l ih =>
    intro i q h
    cases i with
    | zero => cases h; exact ⟨rfl, rfl, rfl, rfl⟩
    | succ i =>
      obtain ⟨h0, h1, h2, h3⟩ := ih i q h
      have e : ∀ k, (tokC (t :: l))[(i + 1) * 4 + k]? = (tokC l)[i * 4 + k]? := by
        intro k
        rw [show (i + 1) * 4 + k = (i * 4 + k) + 4 by omega]
        rfl
      exact ⟨(e 0).trans h0, (e 1).trans h1, (e 2).trans h2, (e 3).trans h3⟩

theorem toks_facts : ∀ (f n : Nat) (l : Bs) (ts : List Tok), toks f n l = some ts → ts.length ≤ l.length ∧ ∀ q ∈ ts, q.lo ≤ n ∧ q.hi ≤ n := by
  intro f
  induction f with
  | zero => intro n l ts h; cases h
  | succ f ih =>
    intro n l ts h
    rw [toks_tk] at h
    cases hs : sk l 0 with
    | none => rw [hs] at h; cases h
    | some q =>
      rw [hs] at h
      obtain ⟨j, hj, hjl⟩ := sk_sub l q hs
      have h0 := congrArg List.length hj
      rw [List.length_drop] at h0
      cases q with
      | nil => cases h; exact ⟨Nat.zero_le _, fun q hq => by cases hq⟩
      | cons a q =>
        have h : tk f n (a :: q) = some ts := h
        rw [tk] at h
        cases ht : token (a :: q) with
        | none => rw [ht] at h; cases h
        | some p =>
          obtain ⟨k, t, r⟩ := p
          obtain ⟨e, he1, he, hel⟩ := token_sub ht
          have h1 := congrArg List.length he
          rw [List.length_drop] at h1
          rw [ht] at h
          have h : (toks f n r).map _ = some ts := h
          cases hr : toks f n r with
          | none => rw [hr] at h; cases h
          | some ts' =>
            rw [hr] at h
            cases h
            obtain ⟨g1, g2⟩ := ih n r ts' hr
            refine ⟨by rw [List.length_cons]; omega, fun q hq => ?_⟩
            rcases List.mem_cons.1 hq with rfl | hq
            · exact ⟨Nat.sub_le _ _, Nat.sub_le _ _⟩
            · exact g2 q hq

theorem tokens_facts {l : Bs} {ts : List Tok} (h : tokens l = some ts) : ts.length ≤ l.length ∧ ∀ q ∈ ts, q.lo ≤ l.length ∧ q.hi ≤ l.length := by
  unfold tokens at h
  split at h
  · cases h
  · exact toks_facts _ _ _ _ h

theorem scan_rows (s : ByteArray) (m : Int) (w : World) (hs : s.size ≤ 2000) (hm : w.cell? ⟨2, 0, none⟩ = some (.int .i64 m)) :
    Calls Tryd.prog 17 #[.string s] w fun e w' => Below w.heap.size w w' ∧ ((tokens (bytes s) = none ∧ ∃ p c : _, e = .returned (.tuple #[.slice p 0 c, .int .i64 2])) ∨ ∃ (L : List Tok) (n : Nat) (p : _) (c : _), tokens (bytes s) = some L ∧ L.length = n ∧ n ≤ 2000 ∧ e = .returned (.tuple #[.slice p n c, .int .i64 0]) ∧ TokAt w' p L) := by
  refine (scan_small s m w hs hm).mono ?_
  rintro e w' ⟨hB, h | ⟨L, p, c, hT, rfl, hL, hO⟩⟩
  · exact ⟨hB, .inl h⟩
  · refine ⟨hB, .inr ⟨L, L.length, p, c, hT, rfl, ?_, rfl, fun i q hq => ?_⟩⟩
    · have := (tokens_facts hT).1
      rw [bytes_len] at this
      omega
    · have h0 : 0 < L.length := Nat.lt_of_le_of_lt (Nat.zero_le i) (List.getElem?_eq_some_iff.1 hq).1
      obtain ⟨g, cap, hv, _, _, _, hg, hc⟩ := tok_cells hO h0
      cases hv
      obtain ⟨h0, h1, h2, h3⟩ := tokC_at L i q hq
      exact ⟨g, rfl, hg, hc _ _ h0, hc _ _ h1, hc _ _ h2, hc _ _ h3⟩


/-- Tokens from a place of a row on. -/
def TokOff (w : World) (p : Option Addr) (l : List Tok) : Prop := l = [] ∨ ∃ g off, p = some ⟨g, off, none⟩ ∧ g < w.heap.size ∧ ∀ (i : Nat) (q : Tok), l[i]? = some q → w.cell? ⟨g, off + i * 4, none⟩ = some (.int .u8 (q.kind.toNat : Nat)) ∧ w.cell? ⟨g, off + i * 4 + 1, none⟩ = some (.string ⟨q.text.toArray⟩) ∧ w.cell? ⟨g, off + i * 4 + 2, none⟩ = some (.int .i64 q.lo) ∧ w.cell? ⟨g, off + i * 4 + 3, none⟩ = some (.int .i64 q.hi)

theorem TokAt.off {w : World} {p : Option Addr} {l : List Tok} (h : TokAt w p l) : TokOff w p l := by
  cases l with
  | nil => exact .inl rfl
  | cons t l =>
    obtain ⟨g, hp, hg, _⟩ := h 0 t rfl
    refine .inr ⟨g, 0, hp, hg, fun i q hq => ?_⟩
    obtain ⟨g', hp', _, h0⟩ := h i q hq
    rw [hp] at hp'
    cases hp'
    rw [Nat.zero_add]
    exact h0

theorem TokOff.step {w w' : World} {p : Option Addr} {l : List Tok} (h : TokOff w p l) (hb : Below w.heap.size w w') : TokOff w' p l := by
  rcases h with h | ⟨g, off, hp, hg, hc⟩
  · exact .inl h
  · refine .inr ⟨g, off, hp, Nat.lt_of_lt_of_le hg hb.size, fun i q hq => ?_⟩
    obtain ⟨h0, h1, h2, h3⟩ := hc i q hq
    exact ⟨(hb.cell hg).trans h0, (hb.cell hg).trans h1, (hb.cell hg).trans h2, (hb.cell hg).trans h3⟩

theorem TokOff.take {w : World} {p : Option Addr} {l : List Tok} (h : TokOff w p l) (k : Nat) : TokOff w p (l.take k) := by
  rcases h with rfl | ⟨g, off, hp, hg, hc⟩
  · exact .inl (by simp)
  · refine .inr ⟨g, off, hp, hg, fun i q hq => hc i q ?_⟩
    rw [List.getElem?_take] at hq
    split at hq
    · exact hq
    · cases hq

theorem TokOff.drop {w : World} {g off : Nat} {l : List Tok} (h : TokOff w (some ⟨g, off, none⟩) l) (k : Nat) : TokOff w (some ⟨g, off + k * 4, none⟩) (l.drop k) := by
  rcases h with rfl | ⟨g, off, hp, hg, hc⟩
  · exact .inl (by simp)
  · cases hp
    refine .inr ⟨_, _, rfl, hg, fun i q hq => ?_⟩
    rw [List.getElem?_drop] at hq
    have := hc (k + i) q hq
    rw [show off + k * 4 + i * 4 = off + (k + i) * 4 by omega]
    exact this

end Go.Proofs.YtgopajddloeclaaDoor

namespace Go.Proofs.YtgopajddloeclaaDoor
open Go.RowKit Go.Lib Go.WideShapes

/-- May a token be a part of a name? -/
def nm (t : Tok) : Bool := t.kind == 119 || t.kind == 113
def foldB (l : Bs) : Bs := l.map low
/-- What is taken, as it stands, and of how many tokens. -/
def takes : List Tok → Bs × Nat
  | t :: u :: v :: _ => if (u.kind == 111 && u.text == [46]) && nm v then (foldB t.text ++ 46 :: foldB v.text, 3) else (foldB t.text, 1)
  | t :: _ => (foldB t.text, 1)
  | [] => ([], 0)
def nmHead : List Tok → Bool
  | t :: _ => nm t
  | [] => false
def takeB (l : List Tok) : Bs × Nat := if nmHead l && goodB (takes l).1 then takes l else ([], 0)

theorem named_any (k : UInt8) (t : Bs) (lo hi : Int) (w : World) :
    Calls Tryd.prog 103 #[.agg #[.int .u8 (k.toNat : Nat), .string ⟨t.toArray⟩, .int .i64 lo, .int .i64 hi]] w fun e w' => e = .returned (.bool (k == 119 || k == 113)) ∧ Below w.heap.size w w' := by
  have e1 : (k == 119) = decide (k.toNat = 119) := by rw [Bool.eq_iff_iff]; simp [← UInt8.toNat_inj]
  have e2 : (k == 113) = decide (k.toNat = 113) := by rw [Bool.eq_iff_iff]; simp [← UInt8.toNat_inj]
  rw [e1, e2]
  by_cases h1 : k.toNat = 119
  · have hb : ((k.toNat : Int) == 119) = true := by simp; omega
    rw [decide_eq_true h1]
    clear e1 e2 h1
    go_enter Tryd.func103, Tryd.ntmps103
    go_wp2_with fail
    go_ret
    exact ⟨rfl, (Below.refl _ _).alloc (Nat.le_refl _) _⟩
  · have hb : ((k.toNat : Int) == 119) = false := by simp; omega
    rw [decide_eq_false h1]
    by_cases h2 : k.toNat = 113
    · have hc : ((k.toNat : Int) == 113) = true := by simp; omega
      rw [decide_eq_true h2]
      clear e1 e2 h1 h2
      go_enter Tryd.func103, Tryd.ntmps103
      go_wp2_with fail
      go_ret
      exact ⟨rfl, (Below.refl _ _).alloc (Nat.le_refl _) _⟩
    · have hc : ((k.toNat : Int) == 113) = false := by simp; omega
      rw [decide_eq_false h2]
      clear e1 e2 h1 h2
      go_enter Tryd.func103, Tryd.ntmps103
      go_wp2_with fail
      go_ret
      exact ⟨rfl, (Below.refl _ _).alloc (Nat.le_refl _) _⟩

theorem TokOff.get {w : World} {g off : Nat} {l : List Tok} (h : TokOff w (some ⟨g, off, none⟩) l) {i : Nat} {q : Tok} (hq : l[i]? = some q) : g < w.heap.size ∧ w.cell? ⟨g, off + i * 4, none⟩ = some (.int .u8 (q.kind.toNat : Nat)) ∧ w.cell? ⟨g, off + i * 4 + 1, none⟩ = some (.string ⟨q.text.toArray⟩) ∧ w.cell? ⟨g, off + i * 4 + 2, none⟩ = some (.int .i64 q.lo) ∧ w.cell? ⟨g, off + i * 4 + 3, none⟩ = some (.int .i64 q.hi) := by
  rcases h with h | ⟨g', off', hp, hg, hc⟩
  · rw [h] at hq; cases hq
  · cases hp; exact ⟨hg, hc i q hq⟩

theorem foldB_length (l : Bs) : (foldB l).length = l.length := by simp [foldB]
theorem takes_three (t u v : Tok) (r : List Tok) : takes (t :: u :: v :: r) = if (u.kind == 111 && u.text == [46]) && nm v then (foldB t.text ++ 46 :: foldB v.text, 3) else (foldB t.text, 1) := rfl
theorem takes_short1 {t u v : Tok} {r : List Tok} (h : (u.kind == 111) = false ∨ (u.text == [46]) = false ∨ nm v = false) : takes (t :: u :: v :: r) = (foldB t.text, 1) := by
  rw [takes_three]
  rcases h with h | h | h <;> simp [h]
theorem takes_long {t u v : Tok} {r : List Tok} (h1 : (u.kind == 111) = true) (h2 : (u.text == [46]) = true) (h3 : nm v = true) : takes (t :: u :: v :: r) = (foldB t.text ++ 46 :: foldB v.text, 3) := by
  rw [takes_three, h1, h2, h3]; rfl
theorem fold_bs (l : Bs) (w : World) (hs : l.length ≤ 2000) :
    Calls Tryd.prog 24 #[.string ⟨l.toArray⟩] w fun e w' => e = .returned (.string ⟨(foldB l).toArray⟩) ∧ Below w.heap.size w w' := by
  have := fold_any ⟨l.toArray⟩ w (by rw [str_size]; exact hs)
  rw [show (bytes ⟨l.toArray⟩).map low = foldB l by simp [bytes, foldB]] at this
  exact this
theorem takeB_no {t : Tok} {r : List Tok} (h : nm t = false) : takeB (t :: r) = ([], 0) := by
  unfold takeB
  rw [show nmHead (t :: r) = nm t from rfl, h]; rfl
theorem takeB_yes {t : Tok} {r : List Tok} {x : Bs} {k : Nat} (h : nm t = true) (ht : takes (t :: r) = (x, k)) : takeB (t :: r) = if goodB x then (x, k) else ([], 0) := by
  unfold takeB
  rw [show nmHead (t :: r) = nm t from rfl, h, ht, Bool.true_and]

/-- What Take leaves. -/
def Took (w : World) (q : Bs × Nat) (e : Ending) (w' : World) : Prop := e = .returned (.tuple #[.string ⟨q.1.toArray⟩, .int .i64 q.2]) ∧ Below w.heap.size w w'

set_option maxRecDepth 100000 in
set_option maxHeartbeats 4000000 in
theorem take_any (p : Option Addr) (T : List Tok) (n c : Nat) (m : Int) (w : World) (hT : T.length = n) (hn : n ≤ 100000) (hA : TokOff w p T) (hx : ∀ q ∈ T, q.text.length ≤ 2000) (hm : w.cell? ⟨2, 0, none⟩ = some (.int .i64 m)) :
    Calls Tryd.prog 71 #[.slice p n c] w (Took w (takeB T)) := by
  have HM := Lib.hid hm
  have HW0 := Lib.hid (World.block_lt_of_cell? w ⟨2, 0, none⟩ hm)
  have HG := Lib.hid (fun (S : ByteArray) (W : World) h1 h2 => good_any S m W h1 h2)
  have HF := Lib.hid (fun (S : Bs) (W : World) h1 => fold_bs S W h1)
  have HN := Lib.hid (fun k t lo hi W => named_any k t lo hi W)
  cases T with
  | nil =>
    obtain rfl : 0 = n := hT
    clear hA hx hm hn
    go_enter Tryd.func71, Tryd.ntmps71
    go_wp2_with fail
    go_ret2
    exact ⟨rfl, Below.refl _ _⟩
  | cons t r =>
    obtain ⟨g, off, rfl, hg, hc⟩ : ∃ g off, p = some ⟨g, off, none⟩ ∧ g < w.heap.size ∧ TokOff w (some ⟨g, off, none⟩) (t :: r) := by
      have hA' := hA
      rcases hA with h | ⟨g, off, hp, hg, _⟩
      · cases h
      · exact ⟨g, off, hp, hg, by rw [← hp]; exact hA'⟩
    obtain ⟨_, a0, a1, a2, a3⟩ := hc.get (i := 0) rfl
    simp only [Nat.zero_mul, Nat.add_zero] at a0 a1 a2 a3
    have hn1 : 0 < n := by rw [← hT]; exact Nat.succ_pos _
    have hn1' : (1 : Int) ≤ n := by omega
    have HTX := Lib.hid hx
    have HCC := Lib.hid hc
    have HTL := Lib.hid hT
    clear hA hx hm hT hc
    cases hnt : nm t with
    | false =>
      rw [takeB_no hnt]
      have HNT := Lib.hid hnt
      clear hnt
      go_enter Tryd.func71, Tryd.ntmps71
      go_wp2_with fail
      refine (HN.out t.kind t.text t.lo t.hi w).mono ?_; rintro e w1 ⟨rfl, hb1⟩
      rw [show (t.kind == 119 || t.kind == 113) = false from HNT.out]
      have HB1 := Lib.hid hb1
      clear hb1
      go_wp2_with fail
      go_ret2
      exact ⟨rfl, HB1.out⟩
    | true =>
      have HNT := Lib.hid hnt
      clear hnt
      have htx : t.text.length ≤ 2000 := HTX.out t (List.mem_cons_self ..)
      go_enter Tryd.func71, Tryd.ntmps71
      go_wp2_with fail
      refine (HN.out t.kind t.text t.lo t.hi w).mono ?_; rintro e w1 ⟨rfl, hb1⟩
      rw [show (t.kind == 119 || t.kind == 113) = true from HNT.out]
      have HB1 := Lib.hid hb1
      have a1 := (hb1.cell (p := ⟨g, off + 1, none⟩) hg).trans a1
      clear hb1 a0 a2 a3
      go_wp2_with fail
      refine (HF.out t.text w1 htx).mono ?_; rintro e w2 ⟨rfl, hb2⟩
      have HB2 := Lib.hid (HB1.out.step hb2 HB1.out.size)
      clear hb2 HB1
      obtain ⟨X, hX⟩ : ∃ X : ByteArray, X = ⟨(foldB t.text).toArray⟩ := ⟨_, rfl⟩
      rw [← hX]
      have hXs : X.size ≤ 2000 := by rw [hX, str_size, foldB_length]; exact htx
      have HXE := Lib.hid hX
      clear htx hX
      rcases r with _ | ⟨u, _ | ⟨v, r⟩⟩
      · obtain rfl : 1 = n := HTL.out
        have HTK := Lib.hid (show takes (t :: []) = (foldB t.text, 1) from rfl)
        clear HCC
        have HXX := Lib.hid HXE.out; have HBX := Lib.hid (show bytes X = foldB t.text by rw [HXE.out])
        clear HXE
        have HME := Lib.hid ((HB2.out.cell (p := ⟨2, 0, none⟩) HW0.out).trans HM.out)
        go_wp2_with fail
        refine (HG.out X w2 (by omega) HME.out).mono ?_; rintro e w9 ⟨rfl, hb9⟩
        have HB9 := Lib.hid (HB2.out.step (below_drew hb9) HB2.out.size)
        have HRR := Lib.hid (takeB_yes HNT.out HTK.out)
        rw [HBX.out]
        clear hb9 HME
        cases hgd : goodB (foldB t.text) with
        | true =>
          rw [hgd, if_pos rfl] at HRR
          clear hgd
          go_wp2_with fail
          go_ret2
          rw [HRR.out]
          exact ⟨by rw [← HXX.out]; rfl, HB9.out⟩
        | false =>
          rw [hgd, if_neg (by simp)] at HRR
          clear hgd
          go_wp2_with fail
          go_ret2
          rw [HRR.out]
          exact ⟨rfl, HB9.out⟩
      · obtain rfl : 2 = n := HTL.out
        have HTK := Lib.hid (show takes (t :: [u]) = (foldB t.text, 1) from rfl)
        clear HCC
        have HXX := Lib.hid HXE.out; have HBX := Lib.hid (show bytes X = foldB t.text by rw [HXE.out])
        clear HXE
        have HME := Lib.hid ((HB2.out.cell (p := ⟨2, 0, none⟩) HW0.out).trans HM.out)
        go_wp2_with fail
        refine (HG.out X w2 (by omega) HME.out).mono ?_; rintro e w9 ⟨rfl, hb9⟩
        have HB9 := Lib.hid (HB2.out.step (below_drew hb9) HB2.out.size)
        have HRR := Lib.hid (takeB_yes HNT.out HTK.out)
        rw [HBX.out]
        clear hb9 HME
        cases hgd : goodB (foldB t.text) with
        | true =>
          rw [hgd, if_pos rfl] at HRR
          clear hgd
          go_wp2_with fail
          go_ret2
          rw [HRR.out]
          exact ⟨by rw [← HXX.out]; rfl, HB9.out⟩
        | false =>
          rw [hgd, if_neg (by simp)] at HRR
          clear hgd
          go_wp2_with fail
          go_ret2
          rw [HRR.out]
          exact ⟨rfl, HB9.out⟩
      · have hn3 : 3 ≤ n := by rw [← HTL.out]; simp
        have hn3' : (3 : Int) ≤ n := by omega
        have hc2 := HCC.out.step HB2.out
        obtain ⟨_, b0, b1, b2, b3⟩ := hc2.get (i := 1) rfl
        obtain ⟨_, d0, d1, d2, d3⟩ := hc2.get (i := 2) rfl
        simp only [Nat.one_mul, Nat.reduceMul] at b0 b1 b2 b3 d0 d1 d2 d3
        have hg2 : g < w2.heap.size := Nat.lt_of_lt_of_le hg HB2.out.size
        clear hc2 b2 b3
        have HKU := Lib.hid (show (u.kind == 111) = decide (u.kind.toNat = 111) by rw [Bool.eq_iff_iff]; simp [← UInt8.toNat_inj])
        by_cases k1 : u.kind.toNat = 111
        · have k2 : ((u.kind.toNat : Int) == 111) = true := by simp; omega
          have HK1 := Lib.hid k1
          clear k1
          cases k3 : (u.text == [46]) with
          | false =>
            have HTK := Lib.hid (show takes (t :: u :: v :: r) = (foldB t.text, 1) from takes_short1 (.inr (.inl k3)))
            clear HCC HKU HK1
            have HXX := Lib.hid HXE.out; have HBX := Lib.hid (show bytes X = foldB t.text by rw [HXE.out])
            clear HXE
            have HME := Lib.hid ((HB2.out.cell (p := ⟨2, 0, none⟩) HW0.out).trans HM.out)
            go_wp2_with fail
            refine (HG.out X w2 (by omega) HME.out).mono ?_; rintro e w9 ⟨rfl, hb9⟩
            have HB9 := Lib.hid (HB2.out.step (below_drew hb9) HB2.out.size)
            have HRR := Lib.hid (takeB_yes HNT.out HTK.out)
            rw [HBX.out]
            clear hb9 HME
            cases hgd : goodB (foldB t.text) with
            | true =>
              rw [hgd, if_pos rfl] at HRR
              clear hgd
              go_wp2_with fail
              go_ret2
              rw [HRR.out]
              exact ⟨by rw [← HXX.out]; rfl, HB9.out⟩
            | false =>
              rw [hgd, if_neg (by simp)] at HRR
              clear hgd
              go_wp2_with fail
              go_ret2
              rw [HRR.out]
              exact ⟨rfl, HB9.out⟩
          | true =>
            go_wp2_with fail
            refine (HN.out v.kind v.text v.lo v.hi w2).mono ?_; rintro e w3 ⟨rfl, hb3⟩
            have HB3 := Lib.hid (HB2.out.step hb3 HB2.out.size)
            have d1 := (hb3.cell (p := ⟨g, off + 8 + 1, none⟩) hg2).trans d1
            clear hb3 b0 b1 d0 d2 d3
            cases k4 : (v.kind == 119 || v.kind == 113) with
            | false =>
              have HTK := Lib.hid (show takes (t :: u :: v :: r) = (foldB t.text, 1) from takes_short1 (.inr (.inr k4)))
              clear HCC HKU HK1 k4
              have HXX := Lib.hid HXE.out; have HBX := Lib.hid (show bytes X = foldB t.text by rw [HXE.out])
              clear HXE
              have HME := Lib.hid ((HB3.out.cell (p := ⟨2, 0, none⟩) HW0.out).trans HM.out)
              go_wp2_with fail
              refine (HG.out X w3 (by omega) HME.out).mono ?_; rintro e w9 ⟨rfl, hb9⟩
              have HB9 := Lib.hid (HB3.out.step (below_drew hb9) HB3.out.size)
              have HRR := Lib.hid (takeB_yes HNT.out HTK.out)
              rw [HBX.out]
              clear hb9 HME
              cases hgd : goodB (foldB t.text) with
              | true =>
                rw [hgd, if_pos rfl] at HRR
                clear hgd
                go_wp2_with fail
                go_ret2
                rw [HRR.out]
                exact ⟨by rw [← HXX.out]; rfl, HB9.out⟩
              | false =>
                rw [hgd, if_neg (by simp)] at HRR
                clear hgd
                go_wp2_with fail
                go_ret2
                rw [HRR.out]
                exact ⟨rfl, HB9.out⟩
            | true =>
              have HTK := Lib.hid (show takes (t :: u :: v :: r) = (foldB t.text ++ 46 :: foldB v.text, 3) from takes_long (by rw [HKU.out, decide_eq_true HK1.out]) k3 k4)
              have hvx : v.text.length ≤ 2000 := HTX.out v (by simp)
              clear HCC HKU HK1 k4
              go_wp2_with fail
              refine (HF.out v.text w3 hvx).mono ?_; rintro e w4 ⟨rfl, hb4⟩
              have HB4 := Lib.hid (HB3.out.step hb4 HB3.out.size)
              obtain ⟨Y, hY⟩ : ∃ Y : ByteArray, Y = ⟨(foldB v.text).toArray⟩ := ⟨_, rfl⟩
              rw [← hY]
              have hYs : Y.size ≤ 2000 := by rw [hY, str_size, foldB_length]; exact hvx
              have hXY : X ++ { data := #[46] } ++ Y = ⟨(foldB t.text ++ 46 :: foldB v.text).toArray⟩ := by
                rw [HXE.out, hY, show ({ data := #[46] } : ByteArray) = ⟨[46].toArray⟩ from rfl, str_cat, str_cat]; simp
              have HXX := Lib.hid hXY
              have HBX := Lib.hid (show bytes (X ++ { data := #[46] } ++ Y) = foldB t.text ++ 46 :: foldB v.text by rw [hXY])
              clear hb4 HXE hY hXY hvx
              have HME := Lib.hid ((HB4.out.cell (p := ⟨2, 0, none⟩) HW0.out).trans HM.out)
              go_wp2_with fail
              refine (HG.out _ w4 (by simp only [ByteArray.size_append]; show X.size + 1 + Y.size ≤ 100000; omega) HME.out).mono ?_; rintro e w9 ⟨rfl, hb9⟩
              have HB9 := Lib.hid (HB4.out.step (below_drew hb9) HB4.out.size)
              have HRR := Lib.hid (takeB_yes HNT.out HTK.out)
              rw [HBX.out]
              clear hb9 HME
              cases hgd : goodB (foldB t.text ++ 46 :: foldB v.text) with
              | true =>
                rw [hgd, if_pos rfl] at HRR
                clear hgd
                go_wp2_with fail
                go_ret2
                rw [HRR.out]
                exact ⟨by rw [← HXX.out]; rfl, HB9.out⟩
              | false =>
                rw [hgd, if_neg (by simp)] at HRR
                clear hgd
                go_wp2_with fail
                go_ret2
                rw [HRR.out]
                exact ⟨rfl, HB9.out⟩
        · have k2 : ((u.kind.toNat : Int) == 111) = false := by simp; omega
          have HTK := Lib.hid (show takes (t :: u :: v :: r) = (foldB t.text, 1) from takes_short1 (.inl (by rw [HKU.out, decide_eq_false k1])))
          clear HCC HKU k1
          have HXX := Lib.hid HXE.out; have HBX := Lib.hid (show bytes X = foldB t.text by rw [HXE.out])
          clear HXE
          have HME := Lib.hid ((HB2.out.cell (p := ⟨2, 0, none⟩) HW0.out).trans HM.out)
          go_wp2_with fail
          refine (HG.out X w2 (by omega) HME.out).mono ?_; rintro e w9 ⟨rfl, hb9⟩
          have HB9 := Lib.hid (HB2.out.step (below_drew hb9) HB2.out.size)
          have HRR := Lib.hid (takeB_yes HNT.out HTK.out)
          rw [HBX.out]
          clear hb9 HME
          cases hgd : goodB (foldB t.text) with
          | true =>
            rw [hgd, if_pos rfl] at HRR
            clear hgd
            go_wp2_with fail
            go_ret2
            rw [HRR.out]
            exact ⟨by rw [← HXX.out]; rfl, HB9.out⟩
          | false =>
            rw [hgd, if_neg (by simp)] at HRR
            clear hgd
            go_wp2_with fail
            go_ret2
            rw [HRR.out]
            exact ⟨rfl, HB9.out⟩
end Go.Proofs.YtgopajddloeclaaDoor

namespace Go.Proofs.YtgopajddloeclaaDoor
open Go.RowKit Go.Lib Go.WideShapes

abbrev w_set : Bs := [115, 101, 116]
abbrev w_reset : Bs := [114, 101, 115, 101, 116]
abbrev w_all : Bs := [97, 108, 108]
abbrev w_discard : Bs := [100, 105, 115, 99, 97, 114, 100]
abbrev w_start : Bs := [115, 116, 97, 114, 116]
abbrev w_transaction : Bs := [116, 114, 97, 110, 115, 97, 99, 116, 105, 111, 110]
abbrev w_begin : Bs := [98, 101, 103, 105, 110]
abbrev w_end : Bs := [101, 110, 100]
abbrev w_commit : Bs := [99, 111, 109, 109, 105, 116]
abbrev w_abort : Bs := [97, 98, 111, 114, 116]
abbrev w_rollback : Bs := [114, 111, 108, 108, 98, 97, 99, 107]
abbrev w_savepoint : Bs := [115, 97, 118, 101, 112, 111, 105, 110, 116]
abbrev w_release : Bs := [114, 101, 108, 101, 97, 115, 101]
abbrev w_show : Bs := [115, 104, 111, 119]
abbrev w_work : Bs := [119, 111, 114, 107]
abbrev w_to : Bs := [116, 111]
abbrev w_local : Bs := [108, 111, 99, 97, 108]
abbrev w_session : Bs := [115, 101, 115, 115, 105, 111, 110]
abbrev w_default : Bs := [100, 101, 102, 97, 117, 108, 116]
/-- The words that are barred. -/
def barredL : List Bs := [[115, 101, 116], [114, 101, 115, 101, 116], [100, 105, 115, 99, 97, 114, 100], [98, 101, 103, 105, 110], [115, 116, 97, 114, 116], [99, 111, 109, 109, 105, 116], [101, 110, 100], [114, 111, 108, 108, 98, 97, 99, 107], [97, 98, 111, 114, 116], [115, 97, 118, 101, 112, 111, 105, 110, 116], [114, 101, 108, 101, 97, 115, 101], [115, 104, 111, 119], [108, 105, 115, 116, 101, 110], [117, 110, 108, 105, 115, 116, 101, 110], [112, 114, 101, 112, 97, 114, 101], [101, 120, 101, 99, 117, 116, 101], [100, 101, 97, 108, 108, 111, 99, 97, 116, 101], [100, 101, 99, 108, 97, 114, 101], [108, 111, 97, 100], [99, 111, 112, 121]]
def barredB (l : Bs) : Bool := barredL.any (fun x => x == l)

/-- What is asked for. -/
structure Cmd where
  kind : UInt8
  name : Bs
  value : Bs
def noCmd : Cmd := ⟨0, [], []⟩
def Cmd.val (c : Cmd) : Value := .agg #[.int .u8 (c.kind.toNat : Nat), .string ⟨c.name.toArray⟩, .string ⟨c.value.toArray⟩]

def beginsW (l : List Tok) (word : Bs) : Bool := match l with
  | t :: _ => t.kind == 119 && t.text == word
  | [] => false
def aloneW (l : List Tok) (word : Bs) : Bool := l.length == 1 && beginsW l word
def workW (l : List Tok) : List Tok := if beginsW l w_work || beginsW l w_transaction then l.drop 1 else l
def saveW (l : List Tok) : List Tok := if decide (1 < l.length) && beginsW l w_savepoint then l.drop 1 else l
def namedC (k : UInt8) (l : List Tok) : Cmd × Bool := (⟨k, (takeB l).1, []⟩, decide (0 < (takeB l).2) && (takeB l).2 == l.length)
def pointC (k : UInt8) (l : List Tok) : Cmd × Bool := match l with
  | [t] => if nm t then (⟨k, t.text, []⟩, true) else (noCmd, false)
  | _ => (noCmd, false)
def rollC (l : List Tok) : Cmd × Bool := if beginsW l w_to then pointC 116 (saveW (l.drop 1)) else (⟨107, [], []⟩, l.length == 0)
def assignsB (t : Tok) : Bool := (t.kind == 119 && t.text == w_to) || (t.kind == 111 && t.text == [61])
def valueB (l : List Tok) : Bs × Bool := match l with
  | [t] => (t.text, (t.kind == 115 || t.kind == 119) || t.kind == 110)
  | [t, u] => (t.text ++ u.text, (t.kind == 111 && (t.text == [45] || t.text == [43])) && u.kind == 110)
  | _ => ([], false)
/-- The kind of a setting, and what is behind the words that say so. -/
def setRow (l : List Tok) : UInt8 × List Tok :=
  if beginsW l w_local then (108, l.drop 1)
  else if ((beginsW l w_session && decide (1 < l.length)) && (l[1]?.map nm).getD false) && !beginsW (l.drop 1) w_to then (115, l.drop 1)
  else (115, l)
def setC (l : List Tok) : Cmd × Bool :=
  if (takeB (setRow l).2).2 = 0 ∨ (takeB (setRow l).2).2 = (setRow l).2.length ∨ ((setRow l).2[(takeB (setRow l).2).2]?.map assignsB).getD false = false then (noCmd, false)
  else if aloneW ((setRow l).2.drop ((takeB (setRow l).2).2 + 1)) w_default then (⟨114, (takeB (setRow l).2).1, []⟩, (setRow l).1 == 115)
  else (⟨(setRow l).1, (takeB (setRow l).2).1, (valueB ((setRow l).2.drop ((takeB (setRow l).2).2 + 1))).1⟩, (valueB ((setRow l).2.drop ((takeB (setRow l).2).2 + 1))).2)
def commandC (word : Bs) (l : List Tok) : Cmd × Bool :=
  if word = w_set then setC l
  else if word = w_reset then (if aloneW l w_all then (⟨97, [], []⟩, true) else namedC 114 l)
  else if word = w_discard then (⟨120, [], []⟩, aloneW l w_all)
  else if word = w_start then (if aloneW l w_transaction then (⟨98, [], []⟩, (workW l).length == 0) else (noCmd, false))
  else if word = w_begin then (⟨98, [], []⟩, (workW l).length == 0)
  else if word = w_end then (⟨99, [], []⟩, (workW l).length == 0)
  else if word = w_commit then (⟨99, [], []⟩, (workW l).length == 0)
  else if word = w_abort then rollC (workW l)
  else if word = w_rollback then rollC (workW l)
  else if word = w_savepoint then pointC 112 l
  else if word = w_release then pointC 101 (saveW l)
  else if word = w_show then namedC 119 l
  else (noCmd, false)
/-- What a statement's tokens ask for. -/
def ofC (l : List Tok) : Cmd := match l with
  | [] => ⟨48, [], []⟩
  | t :: r => if t.kind == 119 then (if (commandC t.text r).2 then (commandC t.text r).1 else if barredB t.text then ⟨117, t.text, []⟩ else ⟨111, t.text, []⟩) else ⟨111, t.text, []⟩
end Go.Proofs.YtgopajddloeclaaDoor
