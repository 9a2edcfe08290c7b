/- A name at its point: mathematics. -/
import Derived.Test.YtpijolcklmdjbaaDoorGM
import Derived.Lib.SplitLaws
import Derived.Lib.Join
namespace Go.Proofs.YtpijolcklmdjbaaDoor
open Go.RowKit Go.Lib Go.WideShapes

/-- A text at each of a sign. -/
def gsp (c : UInt8) : Bs → List Bs
  | [] => [[]]
  | x :: l => if x = c then [] :: gsp c l else match gsp c l with
    | [] => [[x]]
    | a :: r => (x :: a) :: r
theorem gsp_ne (c : UInt8) : ∀ l, gsp c l ≠ []
  | [] => by simp [gsp]
  | x :: l => by
    unfold gsp
    split
    · simp
    · cases h : gsp c l <;> simp
theorem gsp_one {c : UInt8} : ∀ {a : Bs}, c ∉ a → gsp c a = [a]
  | [], _ => rfl
  | x :: a, h => by
    unfold gsp
    rw [if_neg (fun e => h (by rw [e]; exact List.mem_cons_self)), gsp_one (fun hm => h (List.mem_cons_of_mem _ hm))]
theorem gsp_cons {c : UInt8} : ∀ {a b : Bs}, c ∉ a → gsp c (a ++ c :: b) = a :: gsp c b
  | [], b, _ => by show gsp c (c :: b) = [] :: gsp c b; rw [show gsp c (c :: b) = [] :: gsp c b from by rw [gsp, if_pos rfl]]
  | x :: a, b, h => by
    show gsp c (x :: (a ++ c :: b)) = _
    have ih := gsp_cons (a := a) (b := b) (fun hm => h (List.mem_cons_of_mem _ hm))
    rw [gsp, if_neg (fun e => h (by rw [e]; exact List.mem_cons_self)), ih]
theorem gindex_byte (c : UInt8) : ∀ l : Bs, if c ∈ l then indexByte l c = ((l.takeWhile (· != c)).length : Nat) else indexByte l c = -1
  | [] => rfl
  | x :: l => by
    have ih := gindex_byte c l
    have e : indexByte (x :: l) c = if x == c then 0 else if indexByte l c == -1 then -1 else indexByte l c + 1 := rfl
    rw [e]
    by_cases h : x = c
    · subst h; simp
    · have hb : (x == c) = false := by simpa using h
      have hb' : (x != c) = true := by simpa using h
      rw [hb, List.takeWhile_cons, if_pos hb']
      by_cases hc : c ∈ l
      · rw [if_pos hc] at ih
        rw [if_pos (List.mem_cons_of_mem _ hc)]
        have hne : (indexByte l c == -1) = false := by rw [beq_eq_false_iff_ne]; omega
        rw [hne, ih]
        simp
      · rw [if_neg hc] at ih
        rw [if_neg (by simp [hc]; exact fun e => h e.symm), ih]; rfl
theorem gat_first {c : UInt8} : ∀ {l : Bs}, c ∈ l → ∃ a b, l = a ++ c :: b ∧ c ∉ a
  | [], h => by cases h
  | x :: l, h => by
    by_cases e : x = c
    · subst e; exact ⟨[], l, rfl, by simp⟩
    · obtain ⟨a, b, h1, h2⟩ := gat_first (l := l) ((List.mem_cons.1 h).resolve_left fun e' => e e'.symm)
      exact ⟨x :: a, b, by rw [h1]; rfl, by simp [h2]; exact fun e' => e e'.symm⟩
theorem gsplit_sp (c : UInt8) : ∀ (k : Nat) (l : Bs), l.count c ≤ k → splitK [c] 0 k l = gsp c l
  | k, l, hk => by
    by_cases hc : c ∈ l
    · obtain ⟨a, b, rfl, ha⟩ := gat_first hc
      have hi : indexByte (a ++ c :: b) c = (a.length : Nat) := by
        have h := gindex_byte c (a ++ c :: b)
        rw [if_pos (by simp)] at h
        have hall : ∀ x ∈ a, (x != c) = true := fun x hx => by rw [bne_iff_ne]; rintro rfl; exact ha hx
        rw [List.takeWhile_append_of_pos hall, List.takeWhile_cons, if_neg (by simp), List.append_nil] at h
        exact h
      rw [List.count_append, List.count_cons_self, List.count_eq_zero_of_not_mem ha] at hk
      obtain ⟨k, rfl⟩ : ∃ k', k = k' + 1 := ⟨k - 1, by omega⟩
      unfold splitK
      rw [index_one, hi, if_neg (by simp), Int.toNat_natCast, gsp_cons ha, List.take_left' (by omega)]
      have hd : (a ++ c :: b).drop (a.length + [c].length) = b := by
        rw [← List.drop_drop, List.drop_left, List.length_singleton, List.drop_succ_cons, List.drop_zero]
      rw [hd, gsplit_sp c k b (by omega)]
    · rw [gsp_one hc]
      have h := gindex_byte c l
      rw [if_neg hc] at h
      cases k with
      | zero => rfl
      | succ k => unfold splitK; rw [index_one, h, if_pos (by decide)]
termination_by k _ _ => k
theorem gsplit_bytes (c : UInt8) (s : ByteArray) : (splitB ⟨#[c]⟩ 0 (countB s ⟨#[c]⟩) s).map (·.data.toList) = gsp c (bytes s) := by
  rw [splitB_data]
  show splitK [c] 0 (count (bytes s) [c]) (bytes s) = _
  rw [count_one]
  exact gsplit_sp c _ _ (Nat.le_refl _)

theorem good_split {l : Bs} (h : goodB l = true) : ((46 : UInt8) ∉ l ∧ gsp 46 l = [l]) ∨ ∃ a b, l = a ++ 46 :: b ∧ (46 : UInt8) ∉ a ∧ partB a = true ∧ partB b = true ∧ gsp 46 l = [a, b] := by
  rcases good_cases h with hd | ⟨a, b, rfl, ha, hb⟩
  · exact .inl ⟨hd, gsp_one hd⟩
  · exact .inr ⟨a, b, rfl, partB_nodot ha, ha, hb, by rw [gsp_cons (partB_nodot ha), gsp_one (partB_nodot hb)]⟩
theorem split_list {s : ByteArray} {L : List Bs} (h : gsp 46 (bytes s) = L) : Lib.splitB ⟨#[46]⟩ 0 (Lib.countB s ⟨#[46]⟩) s = L.map (fun l => (⟨l.toArray⟩ : ByteArray)) := by
  rw [← h, ← gsplit_bytes, List.map_map]
  symm
  have : ∀ X : List ByteArray, X.map ((fun l : Bs => (⟨l.toArray⟩ : ByteArray)) ∘ fun x => x.data.toList) = X := by
    intro X
    induction X with
    | nil => rfl
    | cons x X ih => rw [List.map_cons, ih]; rfl
  exact this _
theorem count_list {s : ByteArray} : Lib.countB s ⟨#[46]⟩ = (bytes s).count 46 := by
  show Lib.count (bytes s) [46] = _
  rw [count_one]
theorem full_one {l : Bs} (h : (46 : UInt8) ∉ l) : fullB l = identB l := by unfold fullB; rw [if_neg h]
theorem full_two {a : Bs} (h : (46 : UInt8) ∉ a) (b : Bs) : fullB (a ++ 46 :: b) = identB a ++ 46 :: identB b := by unfold fullB; rw [if_pos (by simp), cut_at h]
end Go.Proofs.YtpijolcklmdjbaaDoor
