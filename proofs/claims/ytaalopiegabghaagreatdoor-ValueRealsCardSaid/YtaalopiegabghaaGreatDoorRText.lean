/- Texts that say numbers: mathematics. No program is named here. -/
import Derived.Test.YtaalopiegabghaaGreatDoorRNum
import Derived.Test.YtaalopiegabghaaGreatDoorFParse
import Derived.Lib.IndexBytes
import Derived.Lib.SlTrimSet
namespace Go.Proofs.YtaalopiegabghaaGreatDoor
open Go.Lib

theorem drop_nil {p : UInt8 → Bool} : ∀ {l : Bs}, l.dropWhile p = [] ↔ ∀ x ∈ l, p x = true
  | [] => by simp
  | c :: l => by
    rw [List.dropWhile_cons]
    by_cases h : p c = true
    · rw [if_pos h, drop_nil]; simp [h]
    · rw [if_neg h]; simp [h]
instance (c : UInt8) : Decidable (isDg c) := by unfold isDg; exact inferInstance
def dotOf (l : Bs) : Dcm := ⟨l.takeWhile (· != 46), l.contains 46, (l.dropWhile (· != 46)).drop 1⟩
def dgs (l : Bs) (n : Nat) : Bool := decide (l.length ≤ n) && l.all fun c => decide (isDg c)
def decB (l : Bs) : Bool := !((dotOf l).w.isEmpty && (dotOf l).p.isEmpty) && (dgs (dotOf l).w 9 && dgs (dotOf l).p 6)
def sgnOf : Bs → Bs
  | [] => []
  | c :: _ => if (c == 43 || c == 45) = true then [c] else []
theorem sgn_cons (c : UInt8) (l : Bs) : sgnOf (c :: l) = if (c == 43 || c == 45) = true then [c] else [] := rfl
def restOf (l : Bs) : Bs := l.drop (sgnOf l).length
abbrev nanB : Bs := [110, 97, 110]
abbrev infB : Bs := [105, 110, 102]
abbrev longB : Bs := [105, 110, 102, 105, 110, 105, 116, 121]
/-- What small letters say. -/
def numOf (l : Bs) : Option Num :=
  if restOf l = nanB then (if sgnOf l = [] then some .nan else none)
  else if restOf l = infB ∨ restOf l = longB then some (.inf (sgB (sgnOf l)))
  else if decB (restOf l) = true then some (.fin (sgB (sgnOf l)) (dotOf (restOf l)).mil)
  else none
/-- What a text says. -/
def numB (l : Bs) : Option Num := numOf (l.map low)

theorem dgs_iff {l : Bs} {n : Nat} : dgs l n = true ↔ l.length ≤ n ∧ ∀ c ∈ l, isDg c := by
  unfold dgs
  simp
theorem dot_text : ∀ l : Bs, (dotOf l).text = l
  | [] => rfl
  | c :: l => by
    have ih := dot_text l
    unfold dotOf Dcm.text at ih ⊢
    by_cases h : c = 46
    · subst h
      have e1 : List.takeWhile (fun x : UInt8 => x != 46) (46 :: l) = [] := rfl
      have e2 : List.dropWhile (fun x : UInt8 => x != 46) (46 :: l) = 46 :: l := rfl
      have e3 : List.contains (46 :: l) (46 : UInt8) = true := by simp
      simp only [e1, e2, e3, if_true, List.nil_append, List.drop_succ_cons, List.drop_zero]
    · have hb : (c != 46) = true := by simpa using h
      have e1 : List.takeWhile (fun x : UInt8 => x != 46) (c :: l) = c :: List.takeWhile (fun x : UInt8 => x != 46) l := by rw [List.takeWhile_cons, if_pos hb]
      have e2 : List.dropWhile (fun x : UInt8 => x != 46) (c :: l) = List.dropWhile (fun x : UInt8 => x != 46) l := by rw [List.dropWhile_cons, if_pos hb]
      have e3 : List.contains (c :: l) (46 : UInt8) = List.contains l 46 := by
        rw [List.contains_cons, beq_eq_false_iff_ne.2 (fun e => h e.symm), Bool.false_or]
      simp only [e1, e2, e3]
      by_cases hc : List.contains l (46 : UInt8) = true
      · rw [if_pos hc] at ih ⊢
        simp only at ih
        rw [List.cons_append, ih]
      · rw [if_neg hc] at ih ⊢
        simp only at ih
        rw [ih]
theorem dot_none {l : Bs} (h : (dotOf l).dot = false) : (dotOf l).p = [] := by
  have hc : List.contains l (46 : UInt8) = false := h
  have hall : ∀ x ∈ l, (x != 46) = true := fun x hx => by
    rw [bne_iff_ne]; rintro rfl
    rw [← Bool.not_eq_true] at hc
    exact hc (by simpa using hx)
  show (List.dropWhile _ l).drop 1 = []
  rw [drop_nil.2 hall]
  rfl
theorem dec_ok {l : Bs} (h : decB l = true) : (dotOf l).ok := by
  unfold decB at h
  simp only [Bool.and_eq_true, Bool.not_eq_true', Bool.and_eq_false_iff] at h
  obtain ⟨h0, h1, h2⟩ := h
  rw [dgs_iff] at h1 h2
  refine ⟨h1.2, h2.2, dot_none, ?_, h1.1, h2.1⟩
  rcases h0 with h | h
  · have : 0 < (dotOf l).w.length := by
      rcases List.eq_nil_or_concat (dotOf l).w with e | ⟨a, b, e⟩
      · rw [e] at h; cases h
      · rw [e]; simp
    omega
  · have : 0 < (dotOf l).p.length := by
      rcases List.eq_nil_or_concat (dotOf l).p with e | ⟨a, b, e⟩
      · rw [e] at h; cases h
      · rw [e]; simp
    omega
theorem sgn_of (l : Bs) : Sgn (sgnOf l) := by
  cases l with
  | nil => exact .inl rfl
  | cons c l =>
    rw [sgn_cons]
    by_cases h : (c == 43 || c == 45) = true
    · rw [if_pos h]
      simp at h
      rcases h with rfl | rfl
      · exact .inr (.inl rfl)
      · exact .inr (.inr rfl)
    · rw [if_neg h]; exact .inl rfl
theorem sgn_rest (l : Bs) : sgnOf l ++ restOf l = l := by
  unfold restOf
  cases l with
  | nil => rfl
  | cons c l =>
    rw [sgn_cons]
    by_cases h : (c == 43 || c == 45) = true
    · rw [if_pos h]; rfl
    · rw [if_neg h]; rfl
theorem num_ok {l : Bs} {n : Num} (h : numOf l = some n) : n.ok := by
  unfold numOf at h
  split at h
  · split at h
    · cases h; trivial
    · cases h
  · split at h
    · cases h; trivial
    · split at h
      · rename_i hd; cases h; exact (dec_ok hd).mil_lt
      · cases h

theorem index_dot : ∀ l : Bs, if List.contains l 46 = true then indexByte l 46 = ((l.takeWhile (· != 46)).length : Nat) else indexByte l 46 = -1
  | [] => rfl
  | c :: l => by
    have ih := index_dot l
    have e : indexByte (c :: l) 46 = if c == 46 then 0 else if indexByte l 46 == -1 then -1 else indexByte l 46 + 1 := rfl
    rw [e]
    by_cases h : c = 46
    · subst h; simp
    · have hb : (c == 46) = false := by simpa using h
      have hb' : (c != 46) = true := by simpa using h
      have e3 : List.contains (c :: l) (46 : UInt8) = List.contains l 46 := by
        rw [List.contains_cons, beq_eq_false_iff_ne.2 (fun e => h e.symm), Bool.false_or]
      rw [e3, hb, List.takeWhile_cons, if_pos hb']
      by_cases hc : List.contains l (46 : UInt8) = true
      · rw [if_pos hc] at ih ⊢
        have hne : (indexByte l 46 == -1) = false := by rw [beq_eq_false_iff_ne]; omega
        rw [hne, ih]
        simp
      · rw [if_neg hc] at ih ⊢
        rw [ih]; rfl
theorem drop_while (l : Bs) : l.drop (l.takeWhile (· != 46)).length = l.dropWhile (· != 46) := by
  have h := List.takeWhile_append_dropWhile (p := (· != 46)) (l := l)
  exact (congrArg (List.drop (l.takeWhile (· != 46)).length) h).symm.trans (List.drop_left)
theorem cut_dot (l : Bs) : cut l [46] = ((dotOf l).w, (dotOf l).p, (dotOf l).dot) := by
  unfold cut dotOf
  rw [index_one]
  have h := index_dot l
  by_cases hc : List.contains l (46 : UInt8) = true
  · rw [if_pos hc] at h
    rw [h, if_pos (by omega), hc, Int.toNat_natCast, ← List.drop_drop, drop_while]
    congr 1
    have h2 := List.takeWhile_append_dropWhile (p := (· != 46)) (l := l)
    exact (congrArg (List.take (l.takeWhile (· != 46)).length) h2).symm.trans (List.take_left)
  · rw [if_neg hc] at h
    have hc' : List.contains l (46 : UInt8) = false := by simpa using hc
    have hall : ∀ x ∈ l, (x != 46) = true := fun x hx => by
      rw [bne_iff_ne]; rintro rfl
      exact hc (by simpa using hx)
    rw [h, if_neg (by decide), hc', drop_nil.2 hall]
    have : List.takeWhile (fun x : UInt8 => x != 46) l = l := by
      have h2 := List.takeWhile_append_dropWhile (p := (· != 46)) (l := l)
      rw [drop_nil.2 hall, List.append_nil] at h2
      exact h2
    rw [this]; rfl
abbrev tenB : Bs := [48, 49, 50, 51, 52, 53, 54, 55, 56, 57]
theorem ten_has (c : UInt8) : tenB.contains c = decide (isDg c) := by
  unfold isDg
  have h : ∀ n : Nat, n < 256 → tenB.contains (UInt8.ofNat n) = decide (48 ≤ (UInt8.ofNat n).toNat ∧ (UInt8.ofNat n).toNat ≤ 57) := by decide +kernel
  have h2 := h c.toNat (UInt8.toNat_lt c)
  rwa [UInt8.ofNat_toNat] at h2
theorem trim_ten (l : Bs) : trimS l tenB = [] ↔ l.all (fun c => decide (isDg c)) = true := by
  unfold trimS trimLeftS
  rw [drop_nil]
  unfold trimRightS
  constructor
  · intro h
    rcases List.eq_nil_or_concat (List.reverse (List.dropWhile (fun x => tenB.contains x) l.reverse)) with e | ⟨a, b, e⟩
    · rw [List.reverse_eq_nil_iff, drop_nil] at e
      rw [List.all_eq_true]
      intro c hc
      rw [← ten_has]
      exact e c (List.mem_reverse.2 hc)
    · have hb := h b (by rw [e]; simp)
      have e2 : List.dropWhile (fun x => tenB.contains x) l.reverse = b :: a.reverse := by
        have := congrArg List.reverse e
        rw [List.reverse_reverse] at this
        rw [this]; simp
      have h3 := List.head_dropWhile_not (p := fun x => tenB.contains x) (l := l.reverse) (by rw [e2]; simp)
      simp only [e2, List.head_cons] at h3
      rw [hb] at h3; cases h3
  · intro h x hx
    have : x ∈ l := by
      have h1 := List.mem_reverse.1 hx
      have h2 := (List.dropWhile_sublist _).subset h1
      exact List.mem_reverse.1 h2
    rw [ten_has]
    exact List.all_eq_true.1 h x this
end Go.Proofs.YtaalopiegabghaaGreatDoor
