/- What takes a frame of bytes in memory, in the words of what a frame's beginning says. -/
import Derived.Test.YtjohgfcfnlilmaaRows
import Derived.Test.YtjohgfcfnlilmaaPlain
import Derived.Test.YtjohgfcfnlilmaaFirstB
namespace Go.Proofs.Ytjohgfcfnlilmaa
open Go.RowKit Go.Lib

/-- A slice of bytes that reads s. -/
def Reads (w : World) (v : Value) (s : ByteArray) : Prop :=
  (v = .slice none 0 0 ∧ s.size = 0) ∨ ∃ g o cap, v = .slice (some ⟨g, o, none⟩) s.size cap ∧ s.size ≤ cap ∧ g < w.heap.size ∧ Lies w g o s

theorem head_byteB (s : ByteArray) (h : 4 ≤ s.size) (hx : 0 < s.size) : (s[0]'hx).toNat = headT s false := by
  rw [headT, bytes_four s h]
  rfl

theorem good_frame {s : ByteArray} {bare : Bool} (h : frameE s bare = 0) : headN bare ≤ s.size ∧ 4 ≤ num s (headN bare - 4) ∧ num s (headN bare - 4) ≤ 10004 ∧ frameN s bare ≤ s.size ∧ (bare = false → 0 < headT s bare) := by
  unfold frameE at h
  repeat' split at h
  all_goals first | (exfalso; omega) | skip
  rename_i h1 h2 h3 h4
  refine ⟨by omega, by omega, by omega, by omega, fun hb => ?_⟩
  have : ¬ headT s bare = 0 := fun e => h2 (Or.inr ⟨hb, e⟩)
  omega

theorem firstB_err (s : ByteArray) (v : Value) (bare : Bool) (w : World) (hv : Reads w v s) (hE : ¬ frameE s bare = 0) :
    Calls Try.prog 24 #[v, .bool bare] w fun e w' => e = .returned (.tuple #[.agg #[.int .u8 0, .string { data := #[] }], .int .i64 0, .int .i64 (frameE s bare)]) ∧ Below w.heap.size w w' := by
  rcases hv with ⟨rfl, hz⟩ | ⟨g, o, cap, rfl, hcap, hg, hs⟩
  · have e : frameE s bare = 4 := by
      unfold frameE; rw [if_pos (by rw [hz]; unfold headN; split <;> omega)]
    rw [e]
    cases bare with
    | true => exact firstB_few_bare _ _ _ w (by omega)
    | false => exact firstB_few _ _ _ w (by omega)
  cases bare with
  | true =>
    unfold frameE at hE ⊢
    simp only [headN, if_true, frameN, Nat.sub_self, Nat.zero_add, Bool.true_eq_false, false_and, or_false] at hE ⊢
    by_cases h1 : s.size < 4
    · rw [if_pos h1]; exact firstB_few_bare _ _ _ w h1
    rw [if_neg h1] at hE ⊢
    by_cases h2 : num s 0 < 4
    · rw [if_pos h2]; exact firstB_form_bare g o cap s w (Lib.hid hs) hg hcap (by omega) h2
    rw [if_neg h2] at hE ⊢
    by_cases h3 : 10004 < num s 0
    · rw [if_pos h3]; exact firstB_long_bare g o cap s w (Lib.hid hs) hg hcap (by omega) h3
    rw [if_neg h3] at hE ⊢
    by_cases h4 : s.size < num s 0
    · rw [if_pos h4]; exact firstB_more_bare g o cap s w (Lib.hid hs) hg hcap (by omega) (by omega) (by omega) h4
    · rw [if_neg h4] at hE; exact absurd rfl hE
  | false =>
    unfold frameE at hE ⊢
    simp only [headN, Bool.false_eq_true, if_false, frameN, true_and, show 5 - 4 = 1 from rfl] at hE ⊢
    by_cases h1 : s.size < 5
    · rw [if_pos h1]; exact firstB_few _ _ _ w h1
    have hx : 0 < s.size := by omega
    have ht := head_byteB s (by omega) hx
    rw [if_neg h1] at hE ⊢
    by_cases h2 : num s 1 < 4
    · rw [if_pos (Or.inl h2)]; exact firstB_formN _ g o cap s w (Lib.hid hs) hg hcap (by omega) hx ht h2
    by_cases h0 : headT s false = 0
    · rw [if_pos (Or.inr h0)]; exact firstB_formT g o cap s w (Lib.hid hs) hg hcap (by omega) hx (ht.trans h0) (by omega)
    rw [if_neg (fun h => h.elim h2 h0)] at hE ⊢
    by_cases h3 : 10004 < num s 1
    · rw [if_pos h3]; exact firstB_long _ g o cap s w (Lib.hid hs) hg hcap (by omega) hx ht h3 (by omega)
    rw [if_neg h3] at hE ⊢
    by_cases h4 : s.size < 1 + num s 1
    · rw [if_pos h4]; exact firstB_more _ g o cap s w (Lib.hid hs) hg hcap (by omega) hx ht (by omega) (by omega) (by omega) (by omega)
    · rw [if_neg h4] at hE; exact absurd rfl hE

theorem firstB_good (s : ByteArray) (v : Value) (bare : Bool) (w : World) (hv : Reads w v s) (hE : frameE s bare = 0) :
    Calls Try.prog 24 #[v, .bool bare] w fun e w' => e = .returned (.tuple #[.agg #[.int .u8 (headT s bare : Nat), .string (frameB s bare)], .int .i64 (frameN s bare : Nat), .int .i64 0]) ∧ Below w.heap.size w w' := by
  obtain ⟨h1, h2, h3, h4, h5⟩ := good_frame hE
  rcases hv with ⟨rfl, hz⟩ | ⟨g, o, cap, rfl, hcap, hg, hs⟩
  · exfalso; unfold headN at h1; split at h1 <;> omega
  cases bare with
  | true =>
    simp only [headN, if_true, frameN, Nat.sub_self, Nat.zero_add] at h1 h2 h3 h4
    have eT : ((headT s true : Nat) : Int) = 0 := rfl
    have eN : frameN s true = num s 0 := by simp only [headN, if_true, frameN, Nat.sub_self, Nat.zero_add]
    have eB : frameB s true = s.extract 4 (num s 0) := by simp only [frameB, headN, if_true, frameN, Nat.sub_self, Nat.zero_add]
    by_cases hc : cap = 4
    · subst hc
      have hz : s.size = 4 := by omega
      have hm : num s 0 = 4 := by omega
      have e1 : frameB s true = { data := #[] } := by
        rw [eB, hm]; apply bytes_ext; rw [extract_data]; simp
      rw [eT, e1, eN, hm, show ((4 : Nat) : Int) = 4 from rfl]
      exact firstB_just_bare g o s w (Lib.hid hs) hg h1 hm hz
    · have e1 : frameB s true = s.extract 4 (4 + (num s 0 - 4)) := by rw [eB, show 4 + (num s 0 - 4) = num s 0 by omega]
      have e2 : ((frameN s true : Nat) : Int) = 4 + (num s 0 : Int) - 4 := by rw [eN]; omega
      rw [eT, e2]
      exact firstB_ok_bare g o cap s _ w (Lib.hid hs) hg hcap h1 h2 h3 h4 hc (Lib.hid e1.symm)
  | false =>
    simp only [headN, Bool.false_eq_true, if_false, frameN, show 5 - 4 = 1 from rfl] at h1 h2 h3 h4
    have eN : frameN s false = 1 + num s 1 := by simp only [headN, Bool.false_eq_true, if_false, frameN, show 5 - 4 = 1 from rfl]
    have eB : frameB s false = s.extract 5 (1 + num s 1) := by simp only [frameB, headN, Bool.false_eq_true, if_false, frameN, show 5 - 4 = 1 from rfl]
    have hx : 0 < s.size := by omega
    have ht := head_byteB s (by omega) hx
    by_cases hc : cap = 5
    · subst hc
      have hz : s.size = 5 := by omega
      have hm : num s 1 = 4 := by omega
      have e1 : frameB s false = { data := #[] } := by
        rw [eB, hm]; apply bytes_ext; rw [extract_data]; simp
      rw [e1, eN, hm, show ((1 + 4 : Nat) : Int) = 5 from rfl]
      exact firstB_just _ g o s w (Lib.hid hs) hg h1 hx ht (h5 rfl) hm hz
    · have e1 : frameB s false = s.extract 5 (5 + (5 + num s 1 - 4 - 5)) := by rw [eB, show 5 + (5 + num s 1 - 4 - 5) = 1 + num s 1 by omega]
      have e2 : ((frameN s false : Nat) : Int) = 5 + (num s 1 : Int) - 4 := by rw [eN]; omega
      rw [e2]
      exact firstB_ok _ g o cap s _ w (Lib.hid hs) hg hcap h1 hx ht h2 h3 (h5 rfl) (by omega) hc (Lib.hid e1.symm)
end Go.Proofs.Ytjohgfcfnlilmaa
