/- Contracts of wire.Take and of the document's own. -/
import Derived.Test.YtfdffiphlpeegaaRows
import Derived.Test.YtfdffiphlpeegaaPlain
import Derived.Test.YtfdffiphlpeegaaFirst
namespace Go.Proofs.Ytfdffiphlpeegaa
open Go.RowKit Go.Lib

theorem first_err (s : ByteArray) (bare : Bool) (w : World) (hE : ¬ frameE s bare = 0) :
    Calls Try.prog 24 #[.string s, .bool bare] w fun e w' => e = .returned (.tuple #[.agg #[.int .u8 0, .string { data := #[] }], .int .i64 0, .int .i64 (frameE s bare)]) ∧ Below w.heap.size w w' := by
  cases bare with
  | true =>
    unfold frameE at hE ⊢
    simp only [headN, if_true, frameN, Nat.sub_self, Nat.zero_add, Bool.true_eq_false, false_and, or_false] at hE ⊢
    by_cases h1 : s.size < 4
    · rw [if_pos h1]; exact first_few_bare s w (by omega)
    rw [if_neg h1] at hE ⊢
    by_cases h2 : num s 0 < 4
    · rw [if_pos h2]; exact first_form_bare s w (by omega) h2
    rw [if_neg h2] at hE ⊢
    by_cases h3 : 10004 < num s 0
    · rw [if_pos h3]; exact first_long_bare s w (by omega) h3
    rw [if_neg h3] at hE ⊢
    by_cases h4 : s.size < num s 0
    · rw [if_pos h4]; exact first_more_bare s w (by omega) (by omega) (by omega) h4
    · rw [if_neg h4] at hE; exact absurd rfl hE
  | false =>
    unfold frameE at hE ⊢
    simp only [headN, Bool.false_eq_true, if_false, frameN, true_and, show 5 - 4 = 1 from rfl] at hE ⊢
    by_cases h1 : s.size < 5
    · rw [if_pos h1]; exact first_few s w h1
    have hx : 0 < (s.extract 0 5).size := by simp; omega
    have ht := first_byte s (by omega) hx
    rw [if_neg h1] at hE ⊢
    by_cases h2 : num s 1 < 4
    · rw [if_pos (Or.inl h2)]; exact first_formN _ s w (by omega) hx ht h2
    by_cases h0 : headT s false = 0
    · rw [if_pos (Or.inr h0)]; exact first_formT s w (by omega) hx (ht.trans h0) (by omega)
    rw [if_neg (fun h => h.elim h2 h0)] at hE ⊢
    by_cases h3 : 10004 < num s 1
    · rw [if_pos h3]; exact first_long _ s w (by omega) hx ht h3 (by omega)
    rw [if_neg h3] at hE ⊢
    by_cases h4 : s.size < 1 + num s 1
    · rw [if_pos h4]; exact first_more _ s w (by omega) hx ht (by omega) (by omega) (by omega) (by omega)
    · rw [if_neg h4] at hE; exact absurd rfl hE

theorem frame_good {s : ByteArray} {bare : Bool} (h : frameE s bare = 0) : headN bare ≤ s.size ∧ 4 ≤ num s (headN bare - 4) ∧ num s (headN bare - 4) ≤ 10004 ∧ frameN s bare ≤ s.size ∧ (bare = false → 0 < headT s bare) := by
  unfold frameE at h
  repeat' split at h
  all_goals first | (exfalso; omega) | skip
  rename_i h1 h2 h3 h4
  refine ⟨by omega, by omega, by omega, by omega, fun hb => ?_⟩
  have : ¬ headT s bare = 0 := fun e => h2 (Or.inr ⟨hb, e⟩)
  omega

theorem first_good (s : ByteArray) (bare : Bool) (w : World) (hE : frameE s bare = 0) :
    Calls Try.prog 24 #[.string s, .bool bare] w fun e w' => e = .returned (.tuple #[.agg #[.int .u8 (headT s bare : Nat), .string (frameB s bare)], .int .i64 (frameN s bare : Nat), .int .i64 0]) ∧ Below w.heap.size w w' := by
  obtain ⟨h1, h2, h3, h4, h5⟩ := frame_good hE
  cases bare with
  | true =>
    simp only [headN, if_true, frameN, Nat.sub_self, Nat.zero_add] at h1 h2 h3 h4
    have e1 : frameB s true = (s.extract 0 (num s 0)).extract 4 (num s 0) := by simp only [frameB, headN, if_true, frameN, Nat.sub_self, Nat.zero_add]; exact (cut_cut s 4 _).symm
    have e2 : ((frameN s true : Nat) : Int) = 4 + (num s 0 : Int) - 4 := by simp only [headN, if_true, frameN, Nat.sub_self, Nat.zero_add]; omega
    rw [e1, e2]
    exact first_ok_bare s w h1 h2 h3 h4
  | false =>
    simp only [headN, Bool.false_eq_true, if_false, frameN, show 5 - 4 = 1 from rfl] at h1 h2 h3 h4
    have hx : 0 < (s.extract 0 5).size := by simp; omega
    have ht := first_byte s (by omega) hx
    have e0 : min (5 + num s 1 - 4) s.size = 5 + num s 1 - 4 := by omega
    have e1 : frameB s false = (s.extract 0 (5 + num s 1 - 4)).extract 5 (min (5 + num s 1 - 4) s.size) := by
      rw [e0, cut_cut s 5 _]
      simp only [frameB, headN, Bool.false_eq_true, if_false, frameN, show 5 - 4 = 1 from rfl]
      rw [show 1 + num s 1 = 5 + num s 1 - 4 by omega]
    have e2 : ((frameN s false : Nat) : Int) = 5 + (num s 1 : Int) - 4 := by simp only [headN, Bool.false_eq_true, if_false, frameN, show 5 - 4 = 1 from rfl]; omega
    rw [e1, e2]
    exact first_ok _ s w h1 hx ht h2 h3 (h5 rfl) (by omega)

set_option maxHeartbeats 800000 in
theorem take_err (s : ByteArray) (bare : Bool) (w : World) (hE : ¬ frameE s bare = 0) :
    Calls Try.prog 17 #[.string s, .bool bare] w fun e w' => e = .returned (.tuple #[.agg #[.int .u8 0, .string { data := #[] }], .string { data := #[] }, .int .i64 (frameE s bare)]) ∧ Below w.heap.size w w' := by
  have hne : (frameE s bare != 0) = true := by simpa using hE
  go_enter Try.func17, Try.ntmps17
  go_wp2_with fail
  refine (first_err s bare _ hE).mono ?_; rintro e w1 ⟨rfl, hb⟩
  obtain ⟨hc, hf, hz⟩ := one_box hb
  go_wp2_with fail
  refine bodyPost_ret (v := .tuple #[.agg #[.int .u8 0, .string { data := #[] }], .string { data := #[] }, .int .i64 (frameE s bare)]) (by simp [results, Try.results17, go_sem, hc, hz]) rfl ⟨rfl, ?_⟩
  exact (((((Below.refl _ _).alloc (Nat.le_refl _) _).step hb (by simp)).setCell (Nat.le_refl _) _).setCell (Nat.le_refl _) _).alloc (by simp; omega) _

set_option maxHeartbeats 800000 in
theorem take_good (s : ByteArray) (bare : Bool) (w : World) (hE : frameE s bare = 0) :
    Calls Try.prog 17 #[.string s, .bool bare] w fun e w' => e = .returned (.tuple #[.agg #[.int .u8 (headT s bare : Nat), .string (frameB s bare)], .string (s.extract (frameN s bare) s.size), .int .i64 0]) ∧ Below w.heap.size w w' := by
  have hN := (frame_good hE).2.2.2.1
  go_enter Try.func17, Try.ntmps17
  go_wp2_with fail
  refine (first_good s bare _ hE).mono ?_; rintro e w1 ⟨rfl, hb⟩
  obtain ⟨hc, hf, hz⟩ := one_box hb
  go_wp2_with fail
  go_region
  go_wp2
  refine bodyPost_ret (v := .tuple #[.agg #[.int .u8 (headT s bare : Nat), .string (frameB s bare)], .string (s.extract (frameN s bare) s.size), .int .i64 0]) (by simp [results, Try.results17, go_sem, hc, hz]) rfl ⟨rfl, ?_⟩
  exact ((((((Below.refl _ _).alloc (Nat.le_refl _) _).step hb (by simp)).setCell (Nat.le_refl _) _).setCell (Nat.le_refl _) _).alloc (by simp; omega) _).drew
end Go.Proofs.Ytfdffiphlpeegaa
