/- Types of values: mathematics. No program is named here. -/
import Derived.Test.YtaalopiegabghaaGreatDoorROrdM
namespace Go.Proofs.YtaalopiegabghaaGreatDoor
open Go.Lib

structure Ty where
  kind : Nat
  least : Bs
  most : Bs
  names : List Bs
/-- What int a text says. -/
def intB (l : Bs) : Option Int := if 1 ≤ (restOf l).length ∧ (restOf l).length ≤ 9 ∧ allD (restOf l) = true then some (if sgB (sgnOf l) = true then -(val (restOf l) : Int) else val (restOf l)) else none
theorem itoa_eq (n : Int) : itoa n = (if n < 0 then [45] else []) ++ decDigits n.natAbs := by
  unfold itoa
  by_cases h : n < 0
  · rw [if_pos h, if_pos h]; rfl
  · rw [if_neg h, if_neg h, List.nil_append, show n.toNat = n.natAbs by omega]
theorem allD_iff {l : Bs} : allD l = true ↔ ∀ c ∈ l, isDg c := by
  unfold allD
  rw [List.all_eq_true]
  exact ⟨fun h c hc => of_decide_eq_true (h c hc), fun h c hc => decide_eq_true (h c hc)⟩
theorem intB_range {l : Bs} {n : Int} (h : intB l = some n) : -1000000000 < n ∧ n < 1000000000 := by
  unfold intB at h
  split at h
  · rename_i hc
    have hv := val_lt _ _ rfl (allD_iff.1 hc.2.2)
    have h9 : (10 : Nat) ^ (restOf l).length ≤ 10 ^ 9 := Nat.pow_le_pow_right (by decide) hc.2.1
    have h9' : (10 : Nat) ^ 9 = 1000000000 := rfl
    cases h
    split <;> omega
  · cases h
/-- A decimal form says what it is of. -/
theorem intB_itoa {n : Int} (h : -1000000000 < n ∧ n < 1000000000) : intB (itoa n) = some n := by
  have hlen : (decDigits n.natAbs).length ≤ 9 := by
    rcases Nat.eq_zero_or_pos n.natAbs with e | e
    · rw [e, decDigits_lt (by decide)]; decide
    · exact (pad_dec 9 _ e (by omega)).2
  have hpos := decDigits_pos n.natAbs
  have hd : ∀ c ∈ decDigits n.natAbs, isDg c := decDigits_dg _
  have hs : sgnOf (itoa n) = (if n < 0 then [45] else []) ∧ restOf (itoa n) = decDigits n.natAbs := by
    rw [itoa_eq]
    by_cases h0 : n < 0
    · rw [if_pos h0]; exact ⟨rfl, rfl⟩
    · rw [if_neg h0, List.nil_append]
      cases he : decDigits n.natAbs with
      | nil => rw [he] at hpos; cases hpos
      | cons c l =>
        have hc := hd c (by rw [he]; exact List.mem_cons_self)
        have h43 : c ≠ 43 := by rintro rfl; exact absurd hc (by unfold isDg; decide)
        have h45 : c ≠ 45 := by rintro rfl; exact absurd hc (by unfold isDg; decide)
        have e : sgnOf (c :: l) = [] := by rw [sgn_cons, if_neg (by simp [h43, h45])]
        exact ⟨e, by unfold restOf; rw [e]; rfl⟩
  unfold intB
  rw [hs.1, hs.2, if_pos ⟨hpos, hlen, allD_iff.2 hd⟩, val_decDigits]
  by_cases h0 : n < 0
  · rw [if_pos h0, show sgB [45] = true from rfl, if_pos rfl]; congr 1; omega
  · rw [if_neg h0, show sgB [] = false from rfl, if_neg (by decide)]; congr 1; omega
/-- Letters a to z, 1 to 20. -/
def nameB (l : Bs) : Bool := decide (1 ≤ l.length) && (decide (l.length ≤ 20) && l.all fun c => decide (97 ≤ c.toNat ∧ c.toNat ≤ 122))
def distB : List Bs → Bool
  | [] => true
  | a :: r => !(r.contains a) && distB r
def rightB (t : Ty) : Bool :=
  if t.kind = 98 ∨ t.kind = 116 then t.least.isEmpty && (t.most.isEmpty && t.names.isEmpty)
  else if t.kind = 105 then (match intB t.least, intB t.most with
    | some a, some b => (itoa a == t.least && itoa b == t.most) && (decide (a ≤ b) && t.names.isEmpty)
    | _, _ => false)
  else if t.kind = 114 then ((decide (cE t.least = 0) && cS t.least == t.least) && (decide (cE t.most = 0) && cS t.most == t.most)) && (decide (zC t.least t.most ≤ 0) && t.names.isEmpty)
  else if t.kind = 101 then (decide (1 ≤ t.names.length) && decide (t.names.length ≤ 8)) && ((t.names.all nameB && distB t.names) && (t.least.isEmpty && t.most.isEmpty))
  else false
abbrev onB : Bs := [111, 110]
abbrev offB : Bs := [111, 102, 102]
abbrev onL : List Bs := [onB, [116, 114, 117, 101], [121, 101, 115], [49]]
abbrev offL : List Bs := [offB, [102, 97, 108, 115, 101], [110, 111], [48]]
/-- The form of a value of a type that is right. -/
def formB (t : Ty) (s : Bs) : Option Bs :=
  if t.kind = 98 then (if onL.contains (s.map low) = true then some onB else if offL.contains (s.map low) = true then some offB else none)
  else if t.kind = 105 then (match intB s, intB t.least, intB t.most with
    | some n, some a, some b => if a ≤ n ∧ n ≤ b then some (itoa n) else none
    | _, _, _ => none)
  else if t.kind = 114 then (if bB s t.least t.most = true then some (cS s) else none)
  else if t.kind = 101 then (if t.names.contains (s.map low) = true then some (s.map low) else none)
  else (if s.contains 0 = true then none else some s)
def tcS (t : Ty) (s : Bs) : Bs := if rightB t = true ∧ s.length ≤ 60 then (formB t s).getD [] else []
def tcE (t : Ty) (s : Bs) : Int := if rightB t = true then (if s.length ≤ 60 ∧ (formB t s).isSome = true then 0 else 9) else 1
def barJ : List Bs → Bs
  | [] => []
  | [a] => a
  | a :: b :: r => a ++ 124 :: barJ (b :: r)
/-- A type, written. -/
def printB (t : Ty) : Bs :=
  if t.kind = 98 then [98, 111, 111, 108]
  else if t.kind = 105 then [105, 110, 116, 32] ++ (t.least ++ 32 :: t.most)
  else if t.kind = 114 then [114, 101, 97, 108, 32] ++ (t.least ++ 32 :: t.most)
  else if t.kind = 101 then [101, 110, 117, 109, 32] ++ barJ t.names
  else [116, 101, 120, 116]
def prS (t : Ty) : Bs := if rightB t = true then printB t else []
def prE (t : Ty) : Int := if rightB t = true then 0 else 1
end Go.Proofs.YtaalopiegabghaaGreatDoor
