/- What is a name: mathematics. -/
import Derived.Test.YtpijolcklmdjbaaDoorNGood
namespace Go.Proofs.YtpijolcklmdjbaaDoor
open Go.RowKit Go.Lib Go.WideShapes

theorem below_drew {w w' : World} (h : ∃ n, w' = w.drewN n) : Below w.heap.size w w' := by
  obtain ⟨n, rfl⟩ := h
  exact below_drewN (Below.refl _ _) n

theorem indexByte_none (c : UInt8) : ∀ l : Bs, c ∉ l → indexByte l c = -1 := by
  intro l
  induction l with
  | nil => intro _; rfl
  | cons b r ih =>
    intro h
    simp only [List.mem_cons, not_or] at h
    have hb : (b == c) = false := by simpa using fun e => h.1 (by rw [e])
    rw [indexByte, hb, ih h.2]; rfl

theorem indexByte_at (c : UInt8) (b : Bs) : ∀ a : Bs, c ∉ a → indexByte (a ++ c :: b) c = a.length := by
  intro a
  induction a with
  | nil => intro _; rw [List.nil_append, indexByte]; simp
  | cons x r ih =>
    intro h
    simp only [List.mem_cons, not_or] at h
    have hb : (x == c) = false := by simpa using fun e => h.1 (by rw [e])
    rw [List.cons_append, indexByte, hb, ih h.2]
    rw [if_neg (by simp), if_neg (by simp; try omega)]; simp

theorem cut_none {l : Bs} (h : (46 : UInt8) ∉ l) : Lib.cut l [46] = (l, [], false) := by
  unfold Lib.cut
  rw [Lib.index_one, indexByte_none 46 l h]; rfl
theorem cut_at {a : Bs} (h : (46 : UInt8) ∉ a) (b : Bs) : Lib.cut (a ++ 46 :: b) [46] = (a, b, true) := by
  unfold Lib.cut
  rw [Lib.index_one, indexByte_at 46 b a h, if_pos (by omega)]
  simp

theorem goodB_one {l : Bs} (h : (46 : UInt8) ∉ l) : goodB l = (decide (l.length ≤ 63) && partB l) := by
  unfold goodB
  rw [cut_none h]; simp
theorem goodB_two {a : Bs} (h : (46 : UInt8) ∉ a) (b : Bs) : goodB (a ++ 46 :: b) = (decide (a.length + b.length ≤ 62) && (partB a && partB b)) := by
  unfold goodB
  rw [cut_at h]
  have : (a ++ 46 :: b).length = a.length + b.length + 1 := by simp; omega
  rw [this]
  congr 1
  exact decide_eq_decide.2 (by omega)

theorem partB_no (l : Bs) (c : UInt8) (hc : c ∈ l) (h1 : lowB c = false) (h2 : digB c = false) : partB l = false := by
  obtain ⟨i, hi, rfl⟩ := List.mem_iff_getElem.1 hc
  exact (partB_take l i hi).2 h1 h2
theorem partB_dot (l : Bs) (h : (46 : UInt8) ∈ l) : partB l = false := partB_no l 46 h (by decide) (by decide)
theorem partB_mem {l : Bs} (h : partB l = true) (c : UInt8) (hc : c ∈ l) : lowB c = true ∨ digB c = true := by
  cases h1 : lowB c with
  | true => exact .inl rfl
  | false =>
    cases h2 : digB c with
    | true => exact .inr rfl
    | false => rw [partB_no l c hc h1 h2] at h; cases h
/-- What is no part, with a byte of none in it. -/
theorem partB_nodot {l : Bs} (h : partB l = true) : (46 : UInt8) ∉ l := fun hm => by rw [partB_dot l hm] at h; cases h

theorem partB_as (k : Nat) : partB (List.replicate k 97) = decide (1 ≤ k) := by
  cases k with
  | zero => rfl
  | succ k =>
    rw [List.replicate_succ, partB]
    have : partR (List.replicate k 97) = true := List.all_eq_true.2 fun x hx => by rw [List.eq_of_mem_replicate hx]; rfl
    rw [this]; simp; rfl
theorem dot_as (k : Nat) : (46 : UInt8) ∉ List.replicate k (97 : UInt8) := fun h => by have := List.eq_of_mem_replicate h; cases this

theorem takenB_as (k : Nat) : takenB (List.replicate k 97) = false := by
  rw [← Bool.not_eq_true]
  intro h
  obtain ⟨x, hx, he⟩ := List.any_eq_true.1 h
  have he : List.replicate k 97 = x := by simpa using he
  have hall : (takenL.all fun x => x.any (· != 97)) = true := by decide
  obtain ⟨c, hc, hn⟩ := List.any_eq_true.1 (List.all_eq_true.1 hall x hx)
  rw [← he] at hc
  rw [List.eq_of_mem_replicate hc] at hn
  cases hn

theorem ident_as (k : Nat) (h : 1 ≤ k) : identB (List.replicate k 97) = List.replicate k 97 := by
  unfold identB
  rw [partB_as, takenB_as, decide_eq_true h]; rfl
end Go.Proofs.YtpijolcklmdjbaaDoor
