/- The library's cut, split and join, and ours: mathematics. No program is named here. -/
import Derived.Test.YtaalopiegabghaaGreatDoorVP
import Derived.Lib.SplitLaws
import Derived.Lib.Join
import Derived.Lib.Atoi
namespace Go.Proofs.YtaalopiegabghaaGreatDoor
open Go.Lib

theorem index_byte (c : UInt8) : ∀ l : Bs, if c ∈ l then indexByte l c = ((l.takeWhile (· != c)).length : Nat) else indexByte l c = -1
  | [] => rfl
  | x :: l => by
    have ih := index_byte c l
    have e : indexByte (x :: l) c = if x == c then 0 else if indexByte l c == -1 then -1 else indexByte l c + 1 := rfl
    rw [e]
    by_cases h : x = c
    · subst h; simp
    · have hb : (x == c) = false := by simpa using h
      have hb' : (x != c) = true := by simpa using h
      rw [hb, List.takeWhile_cons, if_pos hb']
      by_cases hc : c ∈ l
      · rw [if_pos hc] at ih
        rw [if_pos (List.mem_cons_of_mem _ hc)]
        have hne : (indexByte l c == -1) = false := by rw [beq_eq_false_iff_ne]; omega
        rw [hne, ih]
        simp
      · rw [if_neg hc] at ih
        rw [if_neg (by simp [hc]; exact fun e => h e.symm), ih]; rfl
theorem drop_whileC (c : UInt8) (l : Bs) : l.drop (l.takeWhile (· != c)).length = l.dropWhile (· != c) := by
  have h := List.takeWhile_append_dropWhile (p := (· != c)) (l := l)
  exact (congrArg (List.drop (l.takeWhile (· != c)).length) h).symm.trans (List.drop_left)
theorem take_whileC (c : UInt8) (l : Bs) : l.take (l.takeWhile (· != c)).length = l.takeWhile (· != c) := by
  have h := List.takeWhile_append_dropWhile (p := (· != c)) (l := l)
  exact (congrArg (List.take (l.takeWhile (· != c)).length) h).symm.trans (List.take_left)
theorem cut_byte (c : UInt8) (l : Bs) : (Lib.cut l [c]).1 = (cutC c l).1 ∧ (Lib.cut l [c]).2.1 = (cutC c l).2 := by
  unfold Lib.cut
  rw [index_one]
  have h := index_byte c l
  by_cases hc : c ∈ l
  · rw [if_pos hc] at h
    rw [h, if_pos (by omega), Int.toNat_natCast, ← List.drop_drop, drop_whileC, take_whileC]
    exact ⟨rfl, rfl⟩
  · rw [if_neg hc] at h
    rw [h, if_neg (by decide), cutC_none hc]
    exact ⟨rfl, rfl⟩
theorem at_first {c : UInt8} : ∀ {l : Bs}, c ∈ l → ∃ a b, l = a ++ c :: b ∧ c ∉ a
  | [], h => by cases h
  | x :: l, h => by
    by_cases e : x = c
    · subst e; exact ⟨[], l, rfl, by simp⟩
    · obtain ⟨a, b, h1, h2⟩ := at_first (l := l) ((List.mem_cons.1 h).resolve_left fun e' => e e'.symm)
      exact ⟨x :: a, b, by rw [h1]; rfl, by simp [h2]; exact fun e' => e e'.symm⟩
theorem split_sp (c : UInt8) : ∀ (k : Nat) (l : Bs), l.count c ≤ k → splitK [c] 0 k l = sp c l
  | k, l, hk => by
    by_cases hc : c ∈ l
    · obtain ⟨a, b, rfl, ha⟩ := at_first hc
      have hi : indexByte (a ++ c :: b) c = (a.length : Nat) := by
        have h := index_byte c (a ++ c :: b)
        rw [if_pos (by simp)] at h
        have hall : ∀ x ∈ a, (x != c) = true := fun x hx => by rw [bne_iff_ne]; rintro rfl; exact ha hx
        rw [List.takeWhile_append_of_pos hall, List.takeWhile_cons, if_neg (by simp), List.append_nil] at h
        exact h
      rw [List.count_append, List.count_cons_self, List.count_eq_zero_of_not_mem ha] at hk
      obtain ⟨k, rfl⟩ : ∃ k', k = k' + 1 := ⟨k - 1, by omega⟩
      unfold splitK
      rw [index_one, hi, if_neg (by simp), Int.toNat_natCast, sp_cons ha, List.take_left' (by omega)]
      have hd : (a ++ c :: b).drop (a.length + [c].length) = b := by
        rw [← List.drop_drop, List.drop_left, List.length_singleton, List.drop_succ_cons, List.drop_zero]
      rw [hd, split_sp c k b (by omega)]
    · rw [sp_one hc]
      have h := index_byte c l
      rw [if_neg hc] at h
      cases k with
      | zero => rfl
      | succ k => unfold splitK; rw [index_one, h, if_pos (by decide)]
termination_by k _ _ => k
theorem split_bytes (c : UInt8) (s : ByteArray) : (splitB ⟨#[c]⟩ 0 (countB s ⟨#[c]⟩) s).map (·.data.toList) = sp c (bytes s) := by
  rw [splitB_data]
  show splitK [c] 0 (count (bytes s) [c]) (bytes s) = _
  rw [count_one]
  exact split_sp c _ _ (Nat.le_refl _)
theorem join_bar : ∀ L : List Bs, Lib.join L [124] = barJ L
  | [] => rfl
  | [a] => join_one a [124]
  | a :: b :: r => by
    have ih := join_bar (b :: r)
    rw [barJ, ← ih]
    simp [Lib.join, List.intercalate]
theorem decFrom_val : ∀ (l : Bs) (acc : Nat), (∀ c ∈ l, isDg c) → decFrom acc l = some (l.foldl (fun a c => 10 * a + (c.toNat - 48)) acc)
  | [], acc, _ => rfl
  | c :: l, acc, h => by
    have hc := h c List.mem_cons_self
    unfold isDg at hc
    have hd : digitVal c = some (c.toNat - 48) := by unfold digitVal; rw [if_pos hc]
    rw [decFrom, hd]
    show decFrom (acc * 10 + (c.toNat - 48)) l = _
    rw [decFrom_val l _ (fun x hx => h x (List.mem_cons_of_mem _ hx)), Nat.mul_comm acc 10]
    rfl
theorem decNat_val {l : Bs} (h : ∀ c ∈ l, isDg c) (h0 : 1 ≤ l.length) : decNat l = some (val l) := by
  unfold decNat
  have : l.isEmpty = false := by cases l with
    | nil => cases h0
    | cons _ _ => rfl
  rw [this, if_neg (by decide), decFrom_val l 0 h]; rfl
theorem atoi_cons (b : UInt8) (r : Bs) : Lib.atoi (b :: r) = if b == 45 then (decNat r).map fun (m : Nat) => -(m : Int) else if b == 43 then (decNat r).map fun (m : Nat) => (m : Int) else (decNat (b :: r)).map fun (m : Nat) => (m : Int) := rfl
theorem atoi_intB {l : Bs} {n : Int} (h : intB l = some n) : Lib.atoi l = some n := by
  unfold intB at h
  split at h
  · rename_i hc
    obtain ⟨h1, _, h3⟩ := hc
    have hd := allD_iff.1 h3
    cases h
    cases l with
    | nil => exact absurd h1 (by decide)
    | cons c t =>
      rw [atoi_cons]
      by_cases h45 : c = 45
      · subst h45
        have hr : restOf (45 :: t) = t := rfl
        rw [hr] at h1 hd ⊢
        rw [show sgB (sgnOf (45 :: t)) = true from rfl, if_pos (show ((45 : UInt8) == 45) = true from rfl), decNat_val hd h1]; rfl
      · by_cases h43 : c = 43
        · subst h43
          have hr : restOf (43 :: t) = t := rfl
          rw [hr] at h1 hd ⊢
          rw [show sgB (sgnOf (43 :: t)) = false from rfl, if_neg (show ¬ ((43 : UInt8) == 45) = true by decide), if_pos (show ((43 : UInt8) == 43) = true from rfl), decNat_val hd h1]; rfl
        · have hs : sgnOf (c :: t) = [] := by rw [sgn_cons, if_neg (by simp [h43, h45])]
          have hr : restOf (c :: t) = c :: t := by unfold restOf; rw [hs]; rfl
          rw [hr] at h1 hd ⊢
          rw [hs, show sgB [] = false from rfl, if_neg (by decide : ¬ false = true), if_neg (by simpa using h45), if_neg (by simpa using h43), decNat_val hd h1]; rfl
  · cases h
end Go.Proofs.YtaalopiegabghaaGreatDoor
