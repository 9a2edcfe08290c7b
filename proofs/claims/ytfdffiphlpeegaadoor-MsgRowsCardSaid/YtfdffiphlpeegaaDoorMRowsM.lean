/- A row of values, each told or none: mathematics. -/
import Derived.Test.YtfdffiphlpeegaaDoorMRQ
namespace Go.Proofs.YtfdffiphlpeegaaDoor

def vN (no : Nat → Bool) : Nat → List Bs → List Int
  | _, [] => []
  | k, t :: l => (if no k = true then -1 else (t.length : Int)) :: vN no (k + 1) l
def vT (no : Nat → Bool) : Nat → List Bs → List Bs
  | _, [] => []
  | k, t :: l => if no k = true then vT no (k + 1) l else t :: vT no (k + 1) l
def tot (T : List Bs) : Nat := (T.map fun t => t.length).sum

theorem vN_snoc (no : Nat → Bool) (t : Bs) : ∀ (A : List Bs) (k : Nat), vN no k (A ++ [t]) = vN no k A ++ [if no (k + A.length) = true then -1 else (t.length : Int)]
  | [], k => rfl
  | a :: A, k => by
    rw [List.cons_append, vN, vN_snoc no t A (k + 1), vN, List.cons_append, List.length_cons, show k + 1 + A.length = k + (A.length + 1) by omega]
theorem vT_snoc (no : Nat → Bool) (t : Bs) : ∀ (A : List Bs) (k : Nat), vT no k (A ++ [t]) = vT no k A ++ (if no (k + A.length) = true then [] else [t])
  | [], k => by
    show (if no k = true then [] else [t]) = _
    rfl
  | a :: A, k => by
    rw [List.cons_append, vT, vT_snoc no t A (k + 1), vT, List.length_cons, show k + 1 + A.length = k + (A.length + 1) by omega]
    by_cases h : no k = true
    · rw [if_pos h, if_pos h]
    · rw [if_neg h, if_neg h]; rfl
theorem vN_length (no : Nat → Bool) : ∀ (l : List Bs) (k : Nat), (vN no k l).length = l.length
  | [], _ => rfl
  | t :: l, k => by rw [vN, List.length_cons, vN_length no l (k + 1), List.length_cons]
theorem vT_length (no : Nat → Bool) : ∀ (l : List Bs) (k : Nat), (vT no k l).length ≤ l.length
  | [], _ => Nat.le_refl _
  | t :: l, k => by
    have := vT_length no l (k + 1)
    rw [vT]; split
    · rw [List.length_cons]; omega
    · rw [List.length_cons, List.length_cons]; omega
theorem tot_cons (t : Bs) (l : List Bs) : tot (t :: l) = t.length + tot l := by unfold tot; rw [List.map_cons, List.sum_cons]
theorem tot_append (a b : List Bs) : tot (a ++ b) = tot a + tot b := by unfold tot; rw [List.map_append, List.sum_append]
theorem tot_vT (no : Nat → Bool) : ∀ (l : List Bs) (k : Nat), tot (vT no k l) ≤ tot l
  | [], _ => Nat.le_refl _
  | t :: l, k => by
    have := tot_vT no l (k + 1)
    rw [vT]; split
    · rw [tot_cons]; omega
    · rw [tot_cons, tot_cons]; omega
theorem tot_mem : ∀ {l : List Bs} {t : Bs}, t ∈ l → t.length ≤ tot l
  | a :: l, t, h => by
    rw [tot_cons]
    rcases List.mem_cons.1 h with rfl | h
    · omega
    · have := tot_mem h; omega
theorem tot_snoc {L : List Bs} {j : Nat} (h : j < L.length) : tot (L.take (j + 1)) = tot (L.take j) + L[j].length := by
  rw [List.take_succ_eq_append_getElem h, tot_append]; rfl
theorem tot_take (L : List Bs) (j : Nat) : tot (L.take j) ≤ tot L := by
  have h := congrArg tot (List.take_append_drop j L)
  rw [tot_append] at h; omega
theorem room_tot (T : List Bs) (N : List Int) : room ⟨T, N, []⟩ = tot T + 19 * T.length + 4 * N.length := by
  have h : ∀ l : List Bs, (l.map fun t => t.length + 19).sum = tot l + 19 * l.length := by
    intro l
    induction l with
    | nil => rfl
    | cons t l ih => rw [List.map_cons, List.sum_cons, ih, tot_cons, List.length_cons]; omega
  show 0 + ((T.map fun t => t.length + 19).sum + 4 * N.length) = _
  rw [h]; omega

theorem nm_in {l m n : Int} (k : Nat) (h : l ≤ n ∧ n ≤ m) (T : List Bs) (N : List Int) (B : Bs) : wNumber l m k ⟨T, n :: N, B⟩ = some (n, ⟨T, N, B ++ be k n⟩) := by
  unfold wNumber wNum; simp only; rw [if_pos h]; rfl
theorem nm_out {l m n : Int} (k : Nat) (h : ¬ (l ≤ n ∧ n ≤ m)) (T : List Bs) (N : List Int) (B : Bs) : wNumber l m k ⟨T, n :: N, B⟩ = none := by
  unfold wNumber wNum; simp only; rw [if_neg h]; rfl
theorem values_rep (no : Nat → Bool) : ∀ (l : List Bs) (k : Nat) (B : Bs), (∀ t ∈ l, t.length ≤ 10000) → ∃ B', rep l.length wValue ⟨vT no k l, vN no k l, B⟩ = some ⟨[], [], B'⟩ ∧ B'.length = B.length + 4 * l.length + tot (vT no k l)
  | [], k, B, _ => ⟨B, rfl, by show _ = B.length + 4 * 0 + 0; omega⟩
  | t :: l, k, B, h => by
    have ht := h t (List.mem_cons_self ..)
    have hl : ∀ u ∈ l, u.length ≤ 10000 := fun u hu => h u (List.mem_cons_of_mem _ hu)
    by_cases hn : no k = true
    · have e1 : wValue ⟨vT no k (t :: l), vN no k (t :: l), B⟩ = some ⟨vT no (k + 1) l, vN no (k + 1) l, B ++ be 4 (-1)⟩ := by
        unfold wValue
        rw [vT, vN, if_pos hn, if_pos hn, nm_in 4 (by omega)]
        simp only [Option.bind_some]
        rw [if_pos (show (-1 : Int) < 0 by omega)]
      obtain ⟨B', h1, h2⟩ := values_rep no l (k + 1) (B ++ be 4 (-1)) hl
      refine ⟨B', ?_, ?_⟩
      · rw [List.length_cons]
        show (wValue _).bind (rep l.length wValue) = _
        rw [e1]; exact h1
      · rw [h2, List.length_append, be_length, List.length_cons, vT, if_pos hn]; omega
    · have e1 : wValue ⟨vT no k (t :: l), vN no k (t :: l), B⟩ = some ⟨vT no (k + 1) l, vN no (k + 1) l, (B ++ be 4 t.length) ++ t⟩ := by
        unfold wValue
        rw [vT, vN, if_neg hn, if_neg hn, nm_in 4 (by omega)]
        simp only [Option.bind_some]
        rw [if_neg (show ¬ ((t.length : Int) < 0) by omega)]
        exact if_pos rfl
      obtain ⟨B', h1, h2⟩ := values_rep no l (k + 1) ((B ++ be 4 t.length) ++ t) hl
      refine ⟨B', ?_, ?_⟩
      · rw [List.length_cons]
        show (wValue _).bind (rep l.length wValue) = _
        rw [e1]; exact h1
      · rw [h2, List.length_append, List.length_append, be_length, List.length_cons, vT, if_neg hn, tot_cons]; omega
theorem written_D (no : Nat → Bool) (l : List Bs) (h : ∀ t ∈ l, t.length ≤ 10000) (hl : l.length ≤ 100) : ∃ B, written true 68 (vT no 0 l) ((l.length : Int) :: vN no 0 l) = some B ∧ B.length = 2 + 4 * l.length + tot (vT no 0 l) := by
  obtain ⟨B', h1, h2⟩ := values_rep no l 0 ([] ++ be 2 l.length) h
  refine ⟨B', ?_, by rw [h2, List.length_append, be_length]; rfl⟩
  show ((wCounted wValue ⟨vT no 0 l, (l.length : Int) :: vN no 0 l, []⟩).bind (wAll [])).bind wDone = _
  unfold wCounted
  rw [nm_in 2 (by omega)]
  show ((rep ((l.length : Int)).toNat wValue ⟨vT no 0 l, vN no 0 l, [] ++ be 2 l.length⟩).bind (wAll [])).bind wDone = _
  rw [Int.toNat_natCast, h1]; rfl
theorem written_Dno (T : List Bs) (N : List Int) (n : Nat) (h : 100 < n) : written true 68 T ((n : Int) :: N) = none := by
  show ((wCounted wValue ⟨T, (n : Int) :: N, []⟩).bind (wAll [])).bind wDone = _
  unfold wCounted
  rw [nm_out 2 (by omega)]; rfl
theorem tot_bound : ∀ (l : List Bs) (b : Nat), (∀ t ∈ l, t.length ≤ b) → tot l ≤ b * l.length
  | [], _, _ => Nat.zero_le _
  | t :: l, b, h => by
    have h1 := h t (List.mem_cons_self ..)
    have h2 := tot_bound l b fun u hu => h u (List.mem_cons_of_mem _ hu)
    rw [tot_cons, List.length_cons, Nat.mul_succ]; omega
theorem row_no {no : Nat → Bool} {L : List Bs} {k : Nat} (h : k < L.length) (hn : no k = true) : vT no 0 (L.take (k + 1)) = vT no 0 (L.take k) ∧ vN no 0 (L.take (k + 1)) = vN no 0 (L.take k) ++ [-1] := by
  have hl : (L.take k).length = k := by rw [List.length_take]; omega
  rw [List.take_succ_eq_append_getElem h, vT_snoc, vN_snoc, hl, Nat.zero_add, if_pos hn, if_pos hn, List.append_nil]
  exact ⟨rfl, rfl⟩
theorem row_yes {no : Nat → Bool} {L : List Bs} {k : Nat} (h : k < L.length) (hn : no k = false) : vT no 0 (L.take (k + 1)) = vT no 0 (L.take k) ++ [L[k]] ∧ vN no 0 (L.take (k + 1)) = vN no 0 (L.take k) ++ [(L[k].length : Int)] := by
  have hl : (L.take k).length = k := by rw [List.length_take]; omega
  rw [List.take_succ_eq_append_getElem h, vT_snoc, vN_snoc, hl, Nat.zero_add, if_neg (by rw [hn]; decide), if_neg (by rw [hn]; decide)]
  exact ⟨rfl, rfl⟩
end Go.Proofs.YtfdffiphlpeegaaDoor
