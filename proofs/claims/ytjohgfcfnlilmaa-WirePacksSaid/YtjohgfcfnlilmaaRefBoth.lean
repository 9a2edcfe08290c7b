/- The document's own Take, in the words of what a frame's beginning says. -/
import Derived.Test.YtjohgfcfnlilmaaRows
import Derived.Test.YtjohgfcfnlilmaaPlain
import Derived.Test.YtjohgfcfnlilmaaTake
import Derived.Test.YtjohgfcfnlilmaaRefTake
namespace Go.Proofs.Ytjohgfcfnlilmaa
open Go.RowKit Go.Lib

theorem head_byte (s : ByteArray) (h : 4 ≤ s.size) (hx : 0 < s.size) : (s[0]'hx).toNat = headT s false := by
  rw [headT, bytes_four s h]
  rfl

theorem rtake_err (s : ByteArray) (bare : Bool) (w : World) (hE : ¬ frameE s bare = 0) :
    Calls Try.prog 16 #[.string s, .bool bare] w fun e w' => e = .returned (.tuple #[.agg #[.int .u8 0, .string { data := #[] }], .string { data := #[] }, .int .i64 (frameE s bare)]) ∧ Below w.heap.size w w' := by
  cases bare with
  | true =>
    unfold frameE at hE ⊢
    simp only [headN, if_true, frameN, Nat.sub_self, Nat.zero_add, Bool.true_eq_false, false_and, or_false] at hE ⊢
    have hlt := num_lt s 0
    by_cases h1 : s.size < 4
    · rw [if_pos h1]; exact rtake_few_bare s w h1
    rw [if_neg h1] at hE ⊢
    by_cases h2 : num s 0 < 4
    · rw [if_pos h2]; exact rtake_form_bare _ s w (Lib.hid rfl) (by omega) h2
    rw [if_neg h2] at hE ⊢
    by_cases h3 : 10004 < num s 0
    · rw [if_pos h3]; exact rtake_long_bare _ s w (Lib.hid rfl) (by omega) h3 hlt
    rw [if_neg h3] at hE ⊢
    by_cases h4 : s.size < num s 0
    · rw [if_pos h4]; exact rtake_more_bare _ s w (Lib.hid rfl) (by omega) (by omega) (by omega) h4
    · rw [if_neg h4] at hE; exact absurd rfl hE
  | false =>
    unfold frameE at hE ⊢
    simp only [headN, Bool.false_eq_true, if_false, frameN, true_and, show 5 - 4 = 1 from rfl] at hE ⊢
    have hlt := num_lt s 1
    by_cases h1 : s.size < 5
    · rw [if_pos h1]; exact rtake_few s w h1
    have hx : 0 < s.size := by omega
    have ht := head_byte s (by omega) hx
    rw [if_neg h1] at hE ⊢
    by_cases h2 : num s 1 < 4
    · rw [if_pos (Or.inl h2)]; exact rtake_formN _ _ s w (Lib.hid rfl) (by omega) hx ht h2
    by_cases h0 : headT s false = 0
    · rw [if_pos (Or.inr h0)]; exact rtake_formT _ s w (Lib.hid rfl) (by omega) hx (ht.trans h0) (by omega) hlt
    rw [if_neg (fun h => h.elim h2 h0)] at hE ⊢
    by_cases h3 : 10004 < num s 1
    · rw [if_pos h3]; exact rtake_long _ _ s w (Lib.hid rfl) (by omega) hx ht h3 hlt (by omega)
    rw [if_neg h3] at hE ⊢
    by_cases h4 : s.size < 1 + num s 1
    · rw [if_pos h4]; exact rtake_more _ _ s w (Lib.hid rfl) (by omega) hx ht (by omega) (by omega) (by omega) h4
    · rw [if_neg h4] at hE; exact absurd rfl hE

theorem rtake_ok (s : ByteArray) (bare : Bool) (w : World) (hE : frameE s bare = 0) :
    Calls Try.prog 16 #[.string s, .bool bare] w fun e w' => e = .returned (.tuple #[.agg #[.int .u8 (headT s bare : Nat), .string (frameB s bare)], .string (s.extract (frameN s bare) s.size), .int .i64 0]) ∧ Below w.heap.size w w' := by
  obtain ⟨h1, h2, h3, h4, h5⟩ := frame_good hE
  cases bare with
  | true =>
    simp only [headN, if_true, frameN, frameB, Nat.sub_self, Nat.zero_add] at h1 h2 h3 h4 ⊢
    exact rtake_good_bare _ s w (Lib.hid rfl) h1 h2 h3 h4
  | false =>
    simp only [headN, Bool.false_eq_true, if_false, frameN, frameB, show 5 - 4 = 1 from rfl] at h1 h2 h3 h4 ⊢
    have hx : 0 < s.size := by omega
    exact rtake_good _ _ s w (Lib.hid rfl) h1 hx (head_byte s (by omega) hx) h2 h3 (h5 rfl) h4
end Go.Proofs.Ytjohgfcfnlilmaa
