/- What more bytes behind a text leave of its frames; all frames of a text, one behind the other. -/
import Derived.Test.YtjohgfcfnlilmaaRows
import Derived.Test.YtjohgfcfnlilmaaPlain
import Derived.Test.YtjohgfcfnlilmaaPlainTake
import Derived.Test.YtjohgfcfnlilmaaReadB
namespace Go.Proofs.Ytjohgfcfnlilmaa
open Go.Lib (extract_data)

theorem num_app (s x : ByteArray) (i : Nat) (h : i + 4 ≤ s.size) : num (s ++ x) i = num s i := by
  have hl := size_list s
  unfold num
  rw [append_list, List.drop_append_of_le_length (by omega), ← big4_take, List.take_append_of_le_length (by rw [List.length_drop]; omega), big4_take]

theorem headT_app (s x : ByteArray) (bare : Bool) (h : 0 < s.size) : headT (s ++ x) bare = headT s bare := by
  have hl := size_list s
  unfold headT
  rw [append_list]
  cases hs : s.data.toList with
  | nil => rw [hs] at hl; simp at hl; omega
  | cons a l => rfl

theorem headN_ge (bare : Bool) : 4 ≤ headN bare ∧ headN bare ≤ 5 := by unfold headN; split <;> omega

theorem frameN_app (s x : ByteArray) (bare : Bool) (h : headN bare ≤ s.size) : frameN (s ++ x) bare = frameN s bare := by
  have := headN_ge bare
  unfold frameN
  rw [num_app s x _ (by omega)]

/-- What is no want of bytes stays so when more bytes come. -/
theorem frameE_app (s x : ByteArray) (bare : Bool) (h : ¬ frameE s bare = 4) : frameE (s ++ x) bare = frameE s bare := by
  have hn := headN_ge bare
  by_cases h1 : s.size < headN bare
  · exact absurd (if_pos h1) h
  have e1 := num_app s x (headN bare - 4) (by omega)
  have e2 := headT_app s x bare (by omega)
  have e3 := frameN_app s x bare (by omega)
  have hz := append_size s x
  unfold frameE at h ⊢
  rw [e1, e2, e3, if_neg (show ¬ (s ++ x).size < headN bare by omega)]
  rw [if_neg h1] at h ⊢
  by_cases h2 : num s (headN bare - 4) < 4 ∨ (bare = false ∧ headT s bare = 0)
  · rw [if_pos h2, if_pos h2]
  rw [if_neg h2] at h ⊢
  rw [if_neg h2]
  by_cases h3 : 10004 < num s (headN bare - 4)
  · rw [if_pos h3, if_pos h3]
  rw [if_neg h3] at h ⊢
  rw [if_neg h3]
  by_cases h4 : s.size < frameN s bare
  · exact absurd (if_pos h4) h
  rw [if_neg h4, if_neg (by omega)]

theorem frameB_app (s x : ByteArray) (bare : Bool) (h : frameE s bare = 0) : frameB (s ++ x) bare = frameB s bare := by
  have g := good_frame h
  have hl := size_list s
  have e3 := frameN_app s x bare g.1
  unfold frameB
  rw [e3]
  apply bytes_ext
  rw [extract_data, extract_data, append_list, List.drop_append_of_le_length (by omega), List.take_append_of_le_length (by rw [List.length_drop]; omega)]

theorem rest_app (s x : ByteArray) (bare : Bool) (h : frameE s bare = 0) : (s ++ x).extract (frameN (s ++ x) bare) (s ++ x).size = s.extract (frameN s bare) s.size ++ x := by
  have g := good_frame h
  have hl := size_list s
  have hz := append_size s x
  have hx := size_list x
  rw [frameN_app s x bare g.1]
  apply bytes_ext
  rw [extract_data, append_list, append_list, extract_data, List.drop_append_of_le_length (by omega), List.take_of_length_le (by rw [List.length_append, List.length_drop]; omega), List.take_of_length_le (by rw [List.length_drop]; omega)]

/-- A reader that began with s (bare or not) has given got, and holds s' (bare or not). -/
inductive Steps : ByteArray → Bool → List (Nat × ByteArray) → ByteArray → Bool → Prop
  | none (s b) : Steps s b [] s b
  | one {s b got s' b'} (h : frameE s b = 0) (t : Steps (s.extract (frameN s b) s.size) false got s' b') : Steps s b ((headT s b, frameB s b) :: got) s' b'

theorem Steps.more {s : ByteArray} {b : Bool} {got : List (Nat × ByteArray)} {s' : ByteArray} {b' : Bool} (h : Steps s b got s' b') (x : ByteArray) : Steps (s ++ x) b got (s' ++ x) b' := by
  induction h with
  | none => exact .none _ _
  | @one s b got s' b' h t ih =>
    have g := good_frame h
    rw [← headT_app s x b (by have := headN_ge b; omega), ← frameB_app s x b h]
    refine .one (by rw [frameE_app s x b (by rw [h]; decide)]; exact h) ?_
    rw [rest_app s x b h]
    exact ih

theorem Steps.snoc {s : ByteArray} {b : Bool} {got : List (Nat × ByteArray)} {s' : ByteArray} {b' : Bool} (h : Steps s b got s' b') (hE : frameE s' b' = 0) :
    Steps s b (got ++ [(headT s' b', frameB s' b')]) (s'.extract (frameN s' b') s'.size) false := by
  induction h with
  | none => exact .one hE (.none _ _)
  | one h _ ih => exact .one h (ih hE)

/-- Two ways through one text that both can't go on have come to the same. -/
theorem Steps.same {s : ByteArray} {b : Bool} {got : List (Nat × ByteArray)} {s' : ByteArray} {b' : Bool} (h : Steps s b got s' b') (hE : ¬ frameE s' b' = 0) {got2 : List (Nat × ByteArray)} {s2 : ByteArray} {b2 : Bool} (h2 : Steps s b got2 s2 b2) (hE2 : ¬ frameE s2 b2 = 0) :
    got = got2 ∧ s' = s2 ∧ b' = b2 := by
  induction h generalizing got2 s2 b2 with
  | none s b =>
    cases h2 with
    | none => exact ⟨rfl, rfl, rfl⟩
    | one h _ => exact absurd h hE
  | one h _ ih =>
    cases h2 with
    | none => exact absurd h hE2
    | one h2 t2 =>
      obtain ⟨rfl, rfl, rfl⟩ := ih hE t2 hE2
      exact ⟨rfl, rfl, rfl⟩

/-- The flag: a reader is bare until it has given a frame. -/
theorem Steps.flag {s : ByteArray} {b : Bool} {got : List (Nat × ByteArray)} {s' : ByteArray} {b' : Bool} (h : Steps s b got s' b') : b' = (b && got.isEmpty) := by
  induction h with
  | none s b => cases b <;> rfl
  | one _ _ ih => rw [ih]; simp

/-- Each frame takes four bytes or more. -/
theorem Steps.size {s : ByteArray} {b : Bool} {got : List (Nat × ByteArray)} {s' : ByteArray} {b' : Bool} (h : Steps s b got s' b') : 4 * got.length + s'.size ≤ s.size := by
  induction h with
  | none => simp
  | @one s b got s' b' h t ih =>
    have g := good_frame h
    have hN : 4 ≤ frameN s b := by unfold frameN; omega
    have hz : (s.extract (frameN s b) s.size).size = s.size - frameN s b := by simp
    rw [List.length_cons]
    omega
end Go.Proofs.Ytjohgfcfnlilmaa
