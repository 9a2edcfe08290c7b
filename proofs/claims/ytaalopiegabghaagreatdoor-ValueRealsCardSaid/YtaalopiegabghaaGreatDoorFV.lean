/- Numbers as they are written: digits, with or without a point: mathematics. No program is named here. -/
import Derived.Test.YtaalopiegabghaaGreatDoorFE
import Derived.Test.YtaalopiegabghaaGreatDoorScanM
namespace Go.Proofs.YtaalopiegabghaaGreatDoor

def isDg (c : UInt8) : Prop := 48 ≤ c.toNat ∧ c.toNat ≤ 57
/-- What digits say. -/
def val (l : Bs) : Nat := l.foldl (fun a c => 10 * a + (c.toNat - 48)) 0
theorem val_snoc (l : Bs) (c : UInt8) : val (l ++ [c]) = 10 * val l + (c.toNat - 48) := by unfold val; rw [List.foldl_append]; rfl
theorem val_nil : val [] = 0 := rfl
theorem val_lt : ∀ (n : Nat) (l : Bs), l.length = n → (∀ c ∈ l, isDg c) → val l < 10 ^ n
  | 0, l, h, _ => by rw [List.length_eq_zero_iff.1 h]; decide
  | n + 1, l, h, hd => by
    rcases List.eq_nil_or_concat l with rfl | ⟨a, c, rfl⟩
    · cases h
    · rw [List.concat_eq_append] at h hd ⊢
      rw [List.length_append, List.length_singleton] at h
      have h1 := val_lt n a (by omega) fun x hx => hd x (List.mem_append_left _ hx)
      have h2 := hd c (List.mem_append_right _ (List.mem_singleton.2 rfl))
      unfold isDg at h2
      rw [val_snoc, Nat.pow_succ]; omega
theorem val_le15 {l : Bs} (hl : l.length ≤ 15) (hd : ∀ c ∈ l, isDg c) : val l < 1000000000000000 :=
  Nat.lt_of_lt_of_le (val_lt _ l rfl hd) (Nat.le_trans (Nat.pow_le_pow_right (by decide) hl) (by decide))

/-- Digits ahead of a point, and behind it. -/
structure Dcm where
  w : Bs
  dot : Bool
  p : Bs
def Dcm.text (d : Dcm) : Bs := if d.dot = true then d.w ++ 46 :: d.p else d.w
structure Dcm.ok (d : Dcm) : Prop where
  dw : ∀ c ∈ d.w, isDg c
  dp : ∀ c ∈ d.p, isDg c
  nodot : d.dot = false → d.p = []
  some : 1 ≤ d.w.length + d.p.length
  w9 : d.w.length ≤ 9
  p6 : d.p.length ≤ 6
/-- The number, as a whole one: all its digits. -/
def Dcm.man (d : Dcm) : Nat := val (d.w ++ d.p)
theorem Dcm.ok.all {d : Dcm} (h : d.ok) : ∀ c ∈ d.w ++ d.p, isDg c := fun c hc => (List.mem_append.1 hc).elim (h.dw c) (h.dp c)
theorem Dcm.ok.man_lt {d : Dcm} (h : d.ok) : d.man < 1000000000000000 := val_le15 (by rw [List.length_append]; have := h.w9; have := h.p6; omega) h.all
theorem Dcm.text_length (d : Dcm) (h : d.ok) : d.text.length = d.w.length + d.p.length + (if d.dot = true then 1 else 0) := by
  unfold Dcm.text
  by_cases hd : d.dot = true
  · rw [if_pos hd, if_pos hd, List.length_append, List.length_cons]; omega
  · rw [if_neg hd, if_neg hd, h.nodot (by simpa using hd)]; simp

/-- How far the digits were read. -/
def RSt (d : Dcm) (j : Nat) (dotted : Bool) (m nd : Nat) (dp : Int) (sd : Bool) : Prop :=
  (dotted = false ∧ j ≤ d.w.length ∧ m = val (d.w.take j) ∧ nd ≤ j ∧ (nd = 0 → m = 0) ∧ -(j : Int) ≤ dp ∧ dp ≤ 0 ∧ sd = decide (0 < j)) ∨
  (d.dot = true ∧ dotted = true ∧ ∃ q, j = d.w.length + 1 + q ∧ q ≤ d.p.length ∧ m = val (d.w ++ d.p.take q) ∧ nd ≤ d.w.length + q ∧ (nd = 0 → m = 0) ∧ dp = nd - q ∧ sd = decide (0 < d.w.length + q))
theorem RSt.start (d : Dcm) : RSt d 0 false 0 0 0 false := .inl ⟨rfl, Nat.zero_le _, rfl, Nat.le_refl _, fun _ => rfl, by omega, by omega, rfl⟩
theorem RSt.small {d : Dcm} (hd : d.ok) {j : Nat} {dotted : Bool} {m nd : Nat} {dp : Int} {sd : Bool} (h : RSt d j dotted m nd dp sd) : m < 1000000000000000 ∧ nd ≤ 15 ∧ -16 ≤ dp ∧ dp ≤ 16 ∧ j ≤ 16 := by
  have h9 := hd.w9; have h6 := hd.p6
  rcases h with ⟨_, h1, h2, h3, _, h5, h6, _⟩ | ⟨_, _, q, h1, h2, h3, h4, _, h6, _⟩
  · refine ⟨?_, by omega, by omega, by omega, by omega⟩
    rw [h2]
    exact val_le15 (by rw [List.length_take]; omega) fun c hc => hd.dw c (List.mem_of_mem_take hc)
  · refine ⟨?_, by omega, by omega, by omega, by omega⟩
    rw [h3]
    exact val_le15 (by rw [List.length_append, List.length_take]; omega) fun c hc => (List.mem_append.1 hc).elim (hd.dw c) fun h => hd.dp c (List.mem_of_mem_take h)
theorem RSt.next {d : Dcm} (hd : d.ok) {j : Nat} {dotted : Bool} {m nd : Nat} {dp : Int} {sd : Bool} (h : RSt d j dotted m nd dp sd) (hj : j < d.text.length) :
    (d.text[j]? = some 46 ∧ dotted = false ∧ RSt d (j + 1) true m nd nd sd) ∨
    ∃ c : UInt8, d.text[j]? = some c ∧ isDg c ∧ (c.toNat = 48 → nd = 0 → RSt d (j + 1) dotted m nd (dp - 1) true) ∧ (¬ (c.toNat = 48 ∧ nd = 0) → RSt d (j + 1) dotted (10 * m + (c.toNat - 48)) (nd + 1) dp true) := by
  rw [d.text_length hd] at hj
  rcases h with ⟨h0, h1, h2, h3, h4, h5, h6, h7⟩ | ⟨ht, h0, q, h1, h2, h3, h4, h5, h6, h7⟩
  · by_cases hjw : j < d.w.length
    · right
      have hc : d.text[j]? = some d.w[j] := by
        unfold Dcm.text; split
        · rw [List.getElem?_append_left hjw, List.getElem?_eq_getElem hjw]
        · rw [List.getElem?_eq_getElem hjw]
      have hdg := hd.dw _ (List.getElem_mem hjw)
      have hs : val (d.w.take (j + 1)) = 10 * m + (d.w[j].toNat - 48) := by rw [List.take_succ_eq_append_getElem hjw, val_snoc, h2]
      refine ⟨_, hc, hdg, fun a b => .inl ⟨h0, hjw, ?_, by omega, h4, by omega, by omega, (decide_eq_true (by omega)).symm⟩, fun a => .inl ⟨h0, hjw, hs.symm, by omega, fun e => absurd e (by omega), by omega, h6, (decide_eq_true (by omega)).symm⟩⟩
      rw [hs, a, h4 b]
    · left
      have hjw' : j = d.w.length := by omega
      have hdot : d.dot = true := by
        cases e : d.dot with
        | true => rfl
        | false => rw [if_neg (by rw [e]; decide), hd.nodot e] at hj; simp at hj; omega
      refine ⟨?_, h0, .inr ⟨hdot, rfl, 0, by omega, Nat.zero_le _, ?_, by omega, h4, by omega, ?_⟩⟩
      · unfold Dcm.text; rw [if_pos hdot, List.getElem?_append_right (by omega), hjw', Nat.sub_self]; rfl
      · rw [h2, hjw', List.take_length, List.take_zero, List.append_nil]
      · rw [h7, hjw', Nat.add_zero]
  · right
    rw [if_pos ht] at hj
    have hq : q < d.p.length := by omega
    have hc : d.text[j]? = some d.p[q] := by
      unfold Dcm.text
      rw [if_pos ht, List.getElem?_append_right (by omega), show j - d.w.length = q + 1 by omega, List.getElem?_cons_succ, List.getElem?_eq_getElem hq]
    have hdg := hd.dp _ (List.getElem_mem hq)
    have hs : val (d.w ++ d.p.take (q + 1)) = 10 * m + (d.p[q].toNat - 48) := by rw [List.take_succ_eq_append_getElem hq, ← List.append_assoc, val_snoc, h3]
    refine ⟨_, hc, hdg, fun a b => .inr ⟨ht, h0, q + 1, by omega, hq, ?_, by omega, h5, by omega, (decide_eq_true (by omega)).symm⟩, fun a => .inr ⟨ht, h0, q + 1, by omega, hq, hs.symm, by omega, fun e => absurd e (by omega), by omega, (decide_eq_true (by omega)).symm⟩⟩
    rw [hs, a, h5 b]
theorem RSt.end {d : Dcm} (hd : d.ok) {j : Nat} {dotted : Bool} {m nd : Nat} {dp : Int} {sd : Bool} (h : RSt d j dotted m nd dp sd) (hj : ¬ j < d.text.length) :
    m = d.man ∧ sd = true ∧ dotted = d.dot ∧ (d.dot = true → dp = nd - d.p.length) ∧ (d.dot = false → d.p.length = 0) := by
  have hs := hd.some
  rw [d.text_length hd] at hj
  rcases h with ⟨h0, h1, h2, h3, h4, h5, h6, h7⟩ | ⟨ht, h0, q, h1, h2, h3, h4, h5, h6, h7⟩
  · have e : d.dot = false := by
      cases e : d.dot with
      | false => rfl
      | true => rw [if_pos e] at hj; omega
    have hp := hd.nodot e
    rw [hp] at hs hj
    simp at hs
    rw [if_neg (by rw [e]; decide), List.length_nil] at hj
    refine ⟨?_, ?_, by rw [h0, e], fun h => absurd h (by rw [e]; decide), fun _ => by rw [hp]; rfl⟩
    · rw [h2, List.take_of_length_le (by omega)]; unfold Dcm.man; rw [hp, List.append_nil]
    · rw [h7]; exact decide_eq_true (by omega)
  · rw [if_pos ht] at hj
    have hq : q = d.p.length := by omega
    refine ⟨?_, ?_, by rw [h0, ht], fun _ => by rw [h6, hq], fun h => absurd h (by rw [ht]; decide)⟩
    · rw [h3, List.take_of_length_le (by omega)]; rfl
    · rw [h7]; exact decide_eq_true (by omega)
end Go.Proofs.YtaalopiegabghaaGreatDoor
