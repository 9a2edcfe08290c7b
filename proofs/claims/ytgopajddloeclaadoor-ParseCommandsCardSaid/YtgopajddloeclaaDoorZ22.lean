/- Contracts and mathematics: SplitM, SignsM, Statement, Range. -/
import Derived.Test.YtgopajddloeclaaDoorZ21
import Derived.Deep.RegionHeld3
import Derived.Deep.QuietTactic
import Derived.IntWalk
import Derived.RangeFuncNested
import Derived.RangeFuncBound
import Derived.RangeFuncCalls
import Derived.RangeFuncLeaves
import Derived.RangeFuncWrites
import Derived.Shelf.Abstract
import Derived.Shelf.RegionOpen
import Derived.WalkKit
import Derived.OwnWalkIn
import Derived.TacticsInMore
import Derived.LoopNIn
import Derived.LoopIn
namespace Go.Proofs.YtgopajddloeclaaDoor

/-- The rows of tokens between the signs that part them. -/
def splitT : Nat → List Tok → List (List Tok)
  | 0, _ => []
  | f + 1, l => if l = [] then [] else (if semiAt l = 0 then [] else [l.take (semiAt l)]) ++ splitT f (l.drop (min (semiAt l + 1) l.length))

def splits (l : List Tok) : List (List Tok) := splitT l.length l

theorem splits_one {l : List Tok} (h : l ≠ []) (h0 : semiAt l ≠ 0) : ∃ r, splits l = l.take (semiAt l) :: r := by
  unfold splits
  cases l with
  | nil => exact absurd rfl h
  | cons t l =>
    rw [List.length_cons, splitT, if_neg h, if_neg h0]
    exact ⟨_, rfl⟩

theorem begins_snoc (x : Bs) : ∀ (W : List Bs) (l : List Tok), begins l (W ++ [x]) = true → ∃ q, l[W.length]? = some q ∧ q.text = x := by
  intro W
  induction W with
  | nil =>
    intro l h
    cases l with
    | nil => cases h
    | cons t l =>
      rw [List.nil_append, begins] at h
      simp only [Bool.and_eq_true, beq_iff_eq] at h
      exact ⟨t, rfl, h.1.2⟩
  | cons w W ih =>
    intro l h
    cases l with
    | nil => cases h
    | cons t l =>
      rw [List.cons_append, begins] at h
      simp only [Bool.and_eq_true] at h
      obtain ⟨q, hq, hx⟩ := ih l h.2
      exact ⟨q, by simpa using hq, hx⟩

/-- Tokens that are these words. -/
def Spell (A : List Tok) (W : List Bs) : Prop := A.map (fun t => (t.kind, t.text)) = W.map (fun x => ((119 : UInt8), x))

theorem begins_spell : ∀ (W : List Bs) (A B : List Tok), Spell A W → begins (A ++ B) W = true := by
  intro W
  induction W with
  | nil => intro A B _; cases (A ++ B) <;> rfl
  | cons w W ih =>
    intro A B h
    cases A with
    | nil => cases h
    | cons t A =>
      unfold Spell at h
      simp only [List.map_cons, List.cons.injEq, Prod.mk.injEq] at h
      rw [List.cons_append, begins, h.1.1, h.1.2, ih A B h.2]
      simp

theorem spell_length {A : List Tok} {W : List Bs} (h : Spell A W) : A.length = W.length := by
  have := congrArg List.length h
  simpa using this

theorem semiAt_spell : ∀ (W : List Bs) (A B : List Tok), Spell A W → semiAt (A ++ B) = W.length + semiAt B := by
  intro W
  induction W with
  | nil => intro A B h; have := spell_length h; rw [List.length_eq_zero_iff.1 this]; simp
  | cons w W ih =>
    intro A B h
    cases A with
    | nil => cases h
    | cons t A =>
      unfold Spell at h
      simp only [List.map_cons, List.cons.injEq, Prod.mk.injEq] at h
      rw [List.cons_append, semiAt_cons, if_neg (by unfold semi; rw [h.1.1]; simp), ih A B h.2, List.length_cons]
      omega

/-- The first statement of a text that begins with words begins with them. -/
theorem first_spell {W : List Bs} {A B : List Tok} (h : Spell A W) (hW : W ≠ []) : ∃ r, splits (A ++ B) = (A ++ B.take (semiAt B)) :: r := by
  have hl := spell_length h
  have h0 : 0 < W.length := List.length_pos_iff.2 hW
  obtain ⟨r, hr⟩ := splits_one (l := A ++ B) (by intro e; have := congrArg List.length e; simp at this; rw [this.1] at hl; simp at hl; omega) (by rw [semiAt_spell W A B h]; omega)
  refine ⟨r, ?_⟩
  rw [hr, semiAt_spell W A B h, ← hl, List.take_length_add_append]

def wordList : List Bs := [[115, 101, 116], [108, 111, 99, 97, 108], [98, 101, 103, 105, 110], [120]]
def between : Bs := [32, 47, 42, 32, 59, 32, 42, 47]
def wordsText (W : List Bs) : Bs := W.flatMap fun w => w ++ (between ++ [10])

theorem word_tokens {w : Bs} (h : w ∈ wordList) : tokens (w ++ between) = some [⟨119, w, 0, w.length⟩] := by
  simp only [wordList, List.mem_cons, List.not_mem_nil, or_false] at h
  rcases h with rfl | rfl | rfl | rfl <;> rfl

theorem spell_moved {A : List Tok} {W : List Bs} (h : Spell A W) (k : Nat) : Spell (A.map (moved k)) W := by
  unfold Spell at h ⊢
  rw [← h, List.map_map]; rfl

theorem tokens_words : ∀ (W : List Bs), (∀ w ∈ W, w ∈ wordList) → ∀ more : Bs, ∃ A k, Spell A W ∧ tokens (wordsText W ++ more) = (tokens more).map fun R => A ++ R.map (moved k) := by
  intro W
  induction W with
  | nil =>
    intro _ more
    refine ⟨[], 0, rfl, ?_⟩
    show tokens more = _
    cases tokens more with
    | none => rfl
    | some R =>
      show some R = some ([] ++ R.map (moved 0))
      rw [List.nil_append]
      congr 1
      conv => lhs; rw [← List.map_id R]
      exact List.map_congr_left fun q _ => rfl
  | cons w W ih =>
    intro h more
    obtain ⟨A, k, hA, ht⟩ := ih (fun x hx => h x (List.mem_cons_of_mem _ hx)) more
    have hj := tokens_join (w ++ between) (wordsText W ++ more) (word_tokens (h w (List.mem_cons_self ..)))
    refine ⟨⟨119, w, 0, w.length⟩ :: A.map (moved ((w ++ between).length + 1)), k + ((w ++ between).length + 1), ?_, ?_⟩
    · show (119, w) :: _ = (119, w) :: _
      rw [show (A.map (moved ((w ++ between).length + 1))).map (fun t => (t.kind, t.text)) = W.map (fun x => ((119 : UInt8), x)) from spell_moved hA _]
    · rw [show wordsText (w :: W) ++ more = (w ++ between) ++ 10 :: (wordsText W ++ more) by simp [wordsText], hj, ht, Option.map_map]
      congr 1
      funext R
      simp only [Function.comp, List.map_append, List.map_map]
      rw [List.cons_append, List.nil_append, List.cons_append]
      congr 2
      refine List.map_congr_left fun q _ => ?_
      show (⟨q.kind, q.text, q.lo + k + _, q.hi + k + _⟩ : Tok) = ⟨q.kind, q.text, q.lo + (k + _), q.hi + (k + _)⟩
      congr 1 <;> omega
end Go.Proofs.YtgopajddloeclaaDoor

namespace Go.Proofs.YtgopajddloeclaaDoor

theorem sk_comment (r : Bs) : ∀ t : Bs, (42 : UInt8) ∉ t → (47 : UInt8) ∉ t → sk (t ++ 42 :: 47 :: r) 3 = sk r 0 := by
  intro t
  induction t with
  | nil => intro _ _; rw [List.nil_append, sk]; simp
  | cons a t ih =>
    intro h1 h2
    simp only [List.mem_cons, not_or] at h1 h2
    have := ih h1.2 h2.2
    cases hl : t ++ 42 :: 47 :: r with
    | nil => simp at hl
    | cons b q =>
      rw [hl] at this
      rw [List.cons_append, hl, sk]
      rw [if_neg (fun e => h2.1 e.1.symm), if_neg (fun e => h1.1 e.1.symm)]
      exact this

theorem quoted_read (t rest : Bs) (h : rest.head? ≠ some 39) : ∃ a q, quoted 39 t ++ rest = a :: q ∧ sk (a :: q) 0 = some (a :: q) ∧ token (a :: q) = some (115, t, rest) := by
  refine ⟨39, doubled 39 t ++ 39 :: rest, by unfold quoted; simp, ?_, token_text_read t rest h⟩
  exact sk_first (by decide) (fun e => by cases e.1) (fun e => by cases e.1)
theorem quoted_name_read (t rest : Bs) (h0 : t ≠ []) (h : rest.head? ≠ some 34) : ∃ a q, quoted 34 t ++ rest = a :: q ∧ sk (a :: q) 0 = some (a :: q) ∧ token (a :: q) = some (113, t, rest) := by
  refine ⟨34, doubled 34 t ++ 34 :: rest, by unfold quoted; simp, ?_, token_name_read t rest h0 h⟩
  exact sk_first (by decide) (fun e => by cases e.1) (fun e => by cases e.1)

/-- A text and a name as text. -/
theorem fields_two (s x : Bs) : fieldsB [⟨115, s, 0, 0⟩, ⟨113, x, 0, 0⟩] = quoted 39 s ++ 32 :: quoted 34 x := by
  simp [fieldsB, fieldT]

theorem two_kts (s x rest : Bs) (hx : x ≠ []) (h : rest.head? ≠ some 34) : kts (quoted 39 s ++ 32 :: (quoted 34 x ++ rest)) = (kts rest).map fun K => (115, s) :: (113, x) :: K := by
  obtain ⟨a, q, e1, h1, h2⟩ := quoted_read s (32 :: (quoted 34 x ++ rest)) (by simp)
  obtain ⟨a', q', e3, h3, h4⟩ := quoted_name_read x rest hx h
  rw [e1, kts_step h1 h2]
  have : kts (32 :: (quoted 34 x ++ rest)) = (kts rest).map ((113, x) :: ·) := by
    rw [e3]
    exact kts_step (by rw [sk_blank' _ _ (by decide)]; exact h3) h4
  rw [this, Option.map_map]; rfl

theorem signs_kts (s y x : Bs) (h1 : (42 : UInt8) ∉ s) (h2 : (47 : UInt8) ∉ s) (hx : x ≠ []) : kts (120 :: 32 :: 47 :: 42 :: 32 :: 59 :: 32 :: (s ++ 42 :: 47 :: (quoted 39 y ++ 32 :: (quoted 34 x ++ [59, 121, 45, 45, 59])))) = some [(119, [120]), (115, y), (113, x), (111, [59]), (119, [121])] := by
  have e0 : kts (120 :: 32 :: 47 :: 42 :: 32 :: 59 :: 32 :: (s ++ 42 :: 47 :: (quoted 39 y ++ 32 :: (quoted 34 x ++ [59, 121, 45, 45, 59])))) = (kts (32 :: 47 :: 42 :: 32 :: 59 :: 32 :: (s ++ 42 :: 47 :: (quoted 39 y ++ 32 :: (quoted 34 x ++ [59, 121, 45, 45, 59]))))).map ((119, [120]) :: ·) :=
    kts_step (sk_first (by decide) (fun e => by cases e.1) (fun e => by cases e.1)) (token_word_read 120 [] _ (by decide) (fun c hc => by simp at hc; subst hc; exact ⟨rfl, rfl⟩) (by simp) (by simp) (fun c hc => by simp at hc; subst hc; rfl))
  have hsk : sk (32 :: 47 :: 42 :: 32 :: 59 :: 32 :: (s ++ 42 :: 47 :: (quoted 39 y ++ 32 :: (quoted 34 x ++ [59, 121, 45, 45, 59])))) 0 = sk (quoted 39 y ++ 32 :: (quoted 34 x ++ [59, 121, 45, 45, 59])) 0 := by
    rw [sk_blank' _ _ (by decide)]
    show sk ((32 :: 59 :: 32 :: s) ++ 42 :: 47 :: (quoted 39 y ++ 32 :: (quoted 34 x ++ [59, 121, 45, 45, 59]))) 3 = _
    exact sk_comment _ _ (by simp [h1]) (by simp [h2])
  have e1 : kts (32 :: 47 :: 42 :: 32 :: 59 :: 32 :: (s ++ 42 :: 47 :: (quoted 39 y ++ 32 :: (quoted 34 x ++ [59, 121, 45, 45, 59])))) = kts (quoted 39 y ++ 32 :: (quoted 34 x ++ [59, 121, 45, 45, 59])) := by
    obtain ⟨a, q, e1, h1, h2⟩ := quoted_read y (32 :: (quoted 34 x ++ [59, 121, 45, 45, 59])) (by simp)
    rw [kts_step (by rw [hsk, e1]; exact h1) h2, e1, kts_step h1 h2]
  have e2 : kts [59, 121, 45, 45, 59] = some [(111, [59]), (119, [121])] := by rfl
  rw [e0, e1, two_kts y x _ hx (by simp), e2]; rfl

theorem semiAt_nil : semiAt [] = 0 := rfl
/-- Three tokens, the sign, one more. -/
theorem splits_signs {L : List Tok} {y x : Bs} (h : L.map kt = [(119, [120]), (115, y), (113, x), (111, [59]), (119, [121])]) : ∃ q0 q1 q2 q4, splits L = [[q0, q1, q2], [q4]] ∧ kt q0 = (119, [120]) ∧ kt q1 = (115, y) ∧ kt q4 = (119, [121]) := by
  have hl := congrArg List.length h
  match L, hl with
  | [q0, q1, q2, q3, q4], _ =>
    simp only [List.map_cons, List.map_nil, List.cons.injEq, and_true] at h
    obtain ⟨e0, e1, e2, e3, e4⟩ := h
    have s0 : semi q0 = false := by unfold semi; rw [show q0.kind = 119 from congrArg Prod.fst e0]; rfl
    have s1 : semi q1 = false := by unfold semi; rw [show q1.kind = 115 from congrArg Prod.fst e1]; rfl
    have s2 : semi q2 = false := by unfold semi; rw [show q2.kind = 113 from congrArg Prod.fst e2]; rfl
    have s3 : semi q3 = true := by unfold semi; rw [show q3.kind = 111 from congrArg Prod.fst e3, show q3.text = [59] from congrArg Prod.snd e3]; rfl
    have s4 : semi q4 = false := by unfold semi; rw [show q4.kind = 119 from congrArg Prod.fst e4]; rfl
    refine ⟨q0, q1, q2, q4, ?_, e0, e1, e4⟩
    simp [splits, splitT, semiAt_cons, s0, s1, s2, s3, s4, semiAt_nil]
end Go.Proofs.YtgopajddloeclaaDoor

namespace Go.Proofs.YtgopajddloeclaaDoor
open Go.RowKit Go.Lib Go.WideShapes

/-- What the region reads and writes. -/
def Seen (w : World) (g o1 o2 b0 : Nat) (a b : Int) (w' : World) : Prop := (w'.cell? ⟨g, o1, none⟩ = some (.int .i64 a) ∧ w'.cell? ⟨g, o2, none⟩ = some (.int .i64 b) ∧ w'.cell? ⟨b0, 0, none⟩ = some (.slice none 0 0) ∧ w'.cell? ⟨b0, 1, none⟩ = some (.int .i64 0) ∧ w'.cell? ⟨b0, 2, none⟩ = some (.int .i64 0) ∧ w'.frozen? ⟨b0, 0, none⟩ = false ∧ w'.frozen? ⟨b0, 1, none⟩ = false ∧ w'.frozen? ⟨b0, 2, none⟩ = false) ∧ Below w.heap.size w w' ∧ w.heap.size ≤ w'.heap.size

theorem seen_step {w w' w'' : World} {g o1 o2 b0 : Nat} {a b : Int} (h : Seen w g o1 o2 b0 a b w') (hg : g < w.heap.size) (hb0 : b0 < w.heap.size) (hb : Below w'.heap.size w' w'') : Seen w g o1 o2 b0 a b w'' := by
  obtain ⟨⟨h1, h2, h3, h4, h5, h6, h7, h8⟩, h9, h10⟩ := h
  have hg' : g < w'.heap.size := Nat.lt_of_lt_of_le hg h10
  have hb' : b0 < w'.heap.size := Nat.lt_of_lt_of_le hb0 h10
  exact ⟨⟨(hb.cell hg').trans h1, (hb.cell hg').trans h2, (hb.cell hb').trans h3, (hb.cell hb').trans h4, (hb.cell hb').trans h5, (hb.frozen hb').trans h6, (hb.frozen hb').trans h7, (hb.frozen hb').trans h8⟩, h9.step hb h10, Nat.le_trans h10 hb.size⟩

/-- What the region reads. -/
def Lies (w w1 : World) (g o1 o2 : Nat) (a b : Int) (w' : World) : Prop := (w'.cell? ⟨g, o1, none⟩ = some (.int .i64 a) ∧ w'.cell? ⟨g, o2, none⟩ = some (.int .i64 b)) ∧ Below w.heap.size w w' ∧ w1.heap.size ≤ w'.heap.size

theorem lies_put {w w1 w' : World} {g o1 o2 : Nat} {a b : Int} (h : Lies w w1 g o1 o2 a b w') (hg : g < w.heap.size) (x y z : Value) : Lies w w1 g o1 o2 a b (((w'.setCell ⟨w.heap.size, 0, none⟩ x).setCell ⟨w.heap.size, 1, none⟩ y).setCell ⟨w.heap.size, 2, none⟩ z) := by
  obtain ⟨⟨h1, h2⟩, h3, h4⟩ := h
  have hne : ∀ o k, (⟨w.heap.size, k, none⟩ : Addr) ≠ ⟨g, o, none⟩ := fun o k e => by cases e; omega
  refine ⟨⟨?_, ?_⟩, ((h3.setCell (p := ⟨_, _, none⟩) (Nat.le_refl _) _).setCell (p := ⟨_, _, none⟩) (Nat.le_refl _) _).setCell (p := ⟨_, _, none⟩) (Nat.le_refl _) _, by simpa [World.setCell] using h4⟩
  · rw [World.cell?_setCell_other _ _ _ _ (hne _ _), World.cell?_setCell_other _ _ _ _ (hne _ _), World.cell?_setCell_other _ _ _ _ (hne _ _)]; exact h1
  · rw [World.cell?_setCell_other _ _ _ _ (hne _ _), World.cell?_setCell_other _ _ _ _ (hne _ _), World.cell?_setCell_other _ _ _ _ (hne _ _)]; exact h2

theorem put_cells {w : World} {b : Nat} {x0 y0 z0 : Value} (h0 : w.cell? ⟨b, 0, none⟩ = some x0) (h1 : w.cell? ⟨b, 1, none⟩ = some y0) (h2 : w.cell? ⟨b, 2, none⟩ = some z0) (x y z : Value) : (((w.setCell ⟨b, 0, none⟩ x).setCell ⟨b, 1, none⟩ y).setCell ⟨b, 2, none⟩ z).cell? ⟨b, 0, none⟩ = some x ∧ (((w.setCell ⟨b, 0, none⟩ x).setCell ⟨b, 1, none⟩ y).setCell ⟨b, 2, none⟩ z).cell? ⟨b, 1, none⟩ = some y ∧ (((w.setCell ⟨b, 0, none⟩ x).setCell ⟨b, 1, none⟩ y).setCell ⟨b, 2, none⟩ z).cell? ⟨b, 2, none⟩ = some z := by
  have n1 : (⟨b, 1, none⟩ : Addr) ≠ ⟨b, 0, none⟩ := fun e => by cases e
  have n2 : (⟨b, 2, none⟩ : Addr) ≠ ⟨b, 0, none⟩ := fun e => by cases e
  have n3 : (⟨b, 2, none⟩ : Addr) ≠ ⟨b, 1, none⟩ := fun e => by cases e
  refine ⟨?_, ?_, ?_⟩
  · rw [World.cell?_setCell_other _ _ _ _ n2, World.cell?_setCell_other _ _ _ _ n1]; exact World.cell?_setCell_same _ _ _ h0
  · rw [World.cell?_setCell_other _ _ _ _ n3]; exact World.cell?_setCell_same _ _ _ ((World.cell?_setCell_other _ _ _ _ n1.symm).trans h1)
  · exact World.cell?_setCell_same _ _ _ ((World.cell?_setCell_other _ _ _ _ n3.symm).trans ((World.cell?_setCell_other _ _ _ _ n2.symm).trans h2))

theorem rowOf_put {w : World} {b gu : Nat} (h : RowOf w gu) (hne : gu ≠ b) (x y z : Value) : RowOf (((w.setCell ⟨b, 0, none⟩ x).setCell ⟨b, 1, none⟩ y).setCell ⟨b, 2, none⟩ z) gu := by
  obtain ⟨row, k, h⟩ := h
  exact ⟨row, k, (Below.heap_setCell _ _ _ _ hne).trans ((Below.heap_setCell _ _ _ _ hne).trans ((Below.heap_setCell _ _ _ _ hne).trans h))⟩

theorem tokAt_put {w : World} {b gu : Nat} {l : List Tok} (h : TokAt w (some ⟨gu, 0, none⟩) l) (hne : gu ≠ b) (x y z : Value) : TokAt (((w.setCell ⟨b, 0, none⟩ x).setCell ⟨b, 1, none⟩ y).setCell ⟨b, 2, none⟩ z) (some ⟨gu, 0, none⟩) l := by
  intro i q hq
  obtain ⟨g, hg, hgl, h0, h1, h2, h3⟩ := h i q hq
  cases hg
  have hn : ∀ o k, (⟨b, k, none⟩ : Addr) ≠ ⟨gu, o, none⟩ := fun o k e => by cases e; exact hne rfl
  have hh : ∀ o, (((w.setCell ⟨b, 0, none⟩ x).setCell ⟨b, 1, none⟩ y).setCell ⟨b, 2, none⟩ z).cell? ⟨gu, o, none⟩ = w.cell? ⟨gu, o, none⟩ := fun o => by
    rw [World.cell?_setCell_other _ _ _ _ (hn _ _), World.cell?_setCell_other _ _ _ _ (hn _ _), World.cell?_setCell_other _ _ _ _ (hn _ _)]
  exact ⟨gu, rfl, by simpa [World.setCell] using hgl, (hh _).trans h0, (hh _).trans h1, (hh _).trans h2, (hh _).trans h3⟩

set_option maxRecDepth 100000 in
set_option maxHeartbeats 2000000 in
theorem statement_any (g off : Nat) (l : List Tok) (n c : Nat) (q0 q1 : Tok) (w : World) (hl : l.length = n) (h : TokOff w (some ⟨g, off, none⟩) l) (h0 : 0 < n) (hsz : n ≤ 2000) (hq0 : l[0]? = some q0) (hq1 : l[n - 1]? = some q1) (hg : g < w.heap.size) :
    Calls Tryd.prog 66 #[.slice (some ⟨g, off, none⟩) n c] w fun e w' => ∃ u d, e = .returned (.agg #[.slice (some ⟨u, 0, none⟩) n d, .int .i64 q0.lo, .int .i64 q1.hi]) ∧ RowOf w' u ∧ TokAt w' (some ⟨u, 0, none⟩) l ∧ Below w.heap.size w w' ∧ n ≤ d ∧ d ≤ 9223372036854775807 := by
  have HL := Lib.hid hl; have H := Lib.hid h
  have HC := Lib.hid (fun W hW => clone_toks ⟨g, off, none⟩ l n c W hl hW h0 hsz)
  have hcc : w.cell? ⟨g, off + 2, none⟩ = some (.int .i64 q0.lo) ∧ w.cell? ⟨g, off + (n - 1) * 4 + 3, none⟩ = some (.int .i64 q1.hi) := by
    rcases h with rfl | ⟨g', off', hp, _, hc⟩
    · cases hq0
    · cases hp
      refine ⟨?_, (hc _ _ hq1).2.2.2⟩
      have := (hc _ _ hq0).2.2.1
      rw [Nat.zero_mul, Nat.add_zero] at this
      exact this
  have HCC := Lib.hid hcc
  clear hl h hcc hq0 hq1
  have h0' : (0 : Int) < n := by omega
  go_enter Tryd.func66, Tryd.ntmps66
  go_wp2_with fail
  have S0 : Seen (w.alloc (Obj.cells #[.slice none 0 0, .int .i64 0, .int .i64 0] 37)) g (off + 2) (off + (n - 1) * 4 + 3) w.heap.size q0.lo q1.hi (w.alloc (Obj.cells #[.slice none 0 0, .int .i64 0, .int .i64 0] 37)) :=
    ⟨⟨Lib.cell?_alloc_some _ HCC.out.1, Lib.cell?_alloc_some _ HCC.out.2, World.cell?_alloc_new _ _ _ _, World.cell?_alloc_new _ _ _ _, World.cell?_alloc_new _ _ _ _, World.frozen?_alloc_at _ _ _ _ rfl, World.frozen?_alloc_at _ _ _ _ rfl, World.frozen?_alloc_at _ _ _ _ rfl⟩, Below.refl _ _, Nat.le_refl _⟩
  have HB1 := Lib.hid ((Below.refl w.heap.size w).alloc (Nat.le_refl _) (Obj.cells #[.slice none 0 0, .int .i64 0, .int .i64 0] 37))
  have H1 := Lib.hid (H.out.step ((Below.refl w.heap.size w).alloc (Nat.le_refl _) (Obj.cells #[.slice none 0 0, .int .i64 0, .int .i64 0] 37)))
  have hg1 : g < (w.alloc (Obj.cells #[.slice none 0 0, .int .i64 0, .int .i64 0] 37)).heap.size := by simp; omega
  have hz1 : w.heap.size < (w.alloc (Obj.cells #[.slice none 0 0, .int .i64 0, .int .i64 0] 37)).heap.size := by simp
  generalize w.alloc (Obj.cells #[.slice none 0 0, .int .i64 0, .int .i64 0] 37) = w1 at S0 HB1 H1 hg1 hz1 ⊢
  have HS := Lib.hid (fun W W' (h : Seen w1 g (off + 2) (off + (n - 1) * 4 + 3) w.heap.size q0.lo q1.hi W) (hb : Below W.heap.size W W') => seen_step h hg1 hz1 hb)
  have HD := Lib.hid (fun W (h : Seen w1 g (off + 2) (off + (n - 1) * 4 + 3) w.heap.size q0.lo q1.hi W) => show Seen w1 g (off + 2) (off + (n - 1) * 4 + 3) w.heap.size q0.lo q1.hi W.drew from ⟨h.1, h.2.1.drew, h.2.2⟩)
  have HS0 := Lib.hid S0
  have HL2 := Lib.hid (fun W (h : Seen w1 g (off + 2) (off + (n - 1) * 4 + 3) w.heap.size q0.lo q1.hi W) => show Lies w w1 g (off + 2) (off + (n - 1) * 4 + 3) q0.lo q1.hi W from ⟨⟨h.1.1, h.1.2.1⟩, HB1.out.step h.2.1 (Nat.le_of_lt hz1), h.2.2⟩)
  have HP := Lib.hid (fun W x y z (h : Lies w w1 g (off + 2) (off + (n - 1) * 4 + 3) q0.lo q1.hi W) => lies_put h hg x y z)
  have T0 := HL2.out _ S0
  clear S0
  unfold Lies at T0
  have b1 : (1 : Int) ≤ n := by omega
  have b2 : (n : Int) - 1 < n := by omega
  have wr1 : IntKind.i64.wrap ((n : Int) - 1) = (n : Int) - 1 := IntWalk.i64_in _ (by omega)
  go_region_held3 (fun w' => (w'.cell? ⟨g, off + 2, none⟩ = some (.int .i64 q0.lo) ∧ w'.cell? ⟨g, off + (n - 1) * 4 + 3, none⟩ = some (.int .i64 q1.hi)) ∧ Below w.heap.size w w' ∧ w1.heap.size ≤ w'.heap.size) (first | exact HL2.out _ (HD.out _ HS0.out) | exact S1 | exact HP.out _ _ _ _ S1) (first | (go_at_call 93; refine (HC.out _ (H1.out.step (HD.out _ HS0.out).2.1)).mono ?_; rintro e w8 ⟨gu, d, ⟨hgu, hd1, hd2⟩, rfl, hro, hA, hb8⟩; have HDD := Lib.hid (And.intro hd1 hd2); clear hd1 hd2; have hgz := (HD.out _ HS0.out).2.2; have s8 := HS.out _ _ (HD.out _ HS0.out) hb8; have S1 := HL2.out _ s8; have HA8 := Lib.hid hA; have HO8 := Lib.hid hro; obtain ⟨⟨_, _, e3, e4, e5, e6, e7, e8⟩, _, _⟩ := s8; clear hA hb8 hro))
  all_goals
    have HTA := Lib.hid (tokAt_put HA8.out (show gu ≠ w.heap.size by omega) (.slice (some ⟨gu, 0, none⟩) n d) (.int .i64 q0.lo) (.int .i64 q1.hi))
    have HRO := Lib.hid (rowOf_put HO8.out (show gu ≠ w.heap.size by omega) (.slice (some ⟨gu, 0, none⟩) n d) (.int .i64 q0.lo) (.int .i64 q1.hi))
    have HBP := Lib.hid (HP.out _ (.slice (some ⟨gu, 0, none⟩) n d) (.int .i64 q0.lo) (.int .i64 q1.hi) S1).2.1
    obtain ⟨k0, k1, k2⟩ := put_cells e3 e4 e5 (.slice (some ⟨gu, 0, none⟩) n d) (.int .i64 q0.lo) (.int .i64 q1.hi)
    go_wp2
    simp [bodyPost, results, Tryd.results66, go_sem, k0, k1, k2]
    first | exact ⟨HRO.out, HTA.out, HBP.out, HDD.out⟩ | exact ⟨gu, d, ⟨rfl, rfl⟩, HRO.out, HTA.out, HBP.out, HDD.out⟩ | exact ⟨d, rfl, HRO.out, HTA.out, HBP.out, HDD.out⟩ | exact ⟨gu, HRO.out, d, ⟨rfl, rfl⟩, HTA.out, HBP.out, HDD.out⟩
end Go.Proofs.YtgopajddloeclaaDoor

namespace Go.Proofs.YtgopajddloeclaaDoor
open Go.RowKit Go.Shelf

/-- What the iterator promises: whatever the rounds keep (J), and what lies behind the things that it handed on (S), the world that it leaves included. -/
def Runs {α : Type} (F : Fence) (n : Nat) (P : Program) (gf : Nat) (lb : Array Value) (encs : α → Array Value) (Kp : World → World → Prop) (S : List α → World → Prop) (N : Nat) (w : World) : Prop :=
  ∀ (l : Nat) (J : List α → World → Prop) (W : World), Below w.heap.size w W → AbidesFrom W.heap.size J →
    (∀ pre x V, J pre V → pre.length < N → YieldAt F (n - 1) P l (encs x) V fun e V' => e = .returned (.bool true) ∧ J (pre ++ [x]) V' ∧ Kp V V') →
    J [] W → CallsIn F n P gf (#[.func (.yield l) #[] #[]] ++ lb) W fun e W' => (∃ v, e = .returned v) ∧ ∃ xs, S xs W' ∧ J xs W'

theorem range_runs {α : Type} {F : Fence} {n : Nat} {P : Program} {g : Operand} {ps : Array Tmp} {assign body : Code} {Q : Exit → Act → World → Prop} {a : Act} {w w0 : World}
    (hro : F.round = none) (h1 : 1 ≤ n) {gf : Nat} {lb : Array Value} (hg : a.eval g = .func (.func gf) #[] lb) (hF : F.fn gf) (eg : ∀ args w, (callFunc gf args).run P w = .ok (.enter gf args) w)
    {encs : α → Array Value} {Kp : World → World → Prop} {S : List α → World → Prop} {N : Nat} (hseq : Runs F (n - 1) P gf lb encs Kp S N w0) (hb0 : Below w0.heap.size w0 w)
    (hKt : ∀ {A B C : World}, Kp A B → Kp B C → Kp A C) (hKb : ∀ (W : World) (l : Nat) (o o' : Obj), w.heap.size ≤ l → W.heap[l]? = some o → o.isCells = false → o.isWalk = false → Kp W (W.putObj l o'))
    (hps : ∀ x, (encs x).size = ps.size) (I : List α → World → Prop) (hI : OwnFrom w.heap.size I) (h0 : I [] w)
    (hround : ∀ (l : Nat) (pre : List α) (x : α) (V : World), w.heap.size ≤ l → I pre V → pre.length < N →
      assign.wpIn (F.inRound l) (n - 1 - 1) P (Exit.then (fun a₁ V1 => Below V.heap.size V V1 ∧ Kp V V1 ∧ ∀ V2, (∃ o o' : Obj, V1.heap[l]? = some o ∧ o.isCells = false ∧ V2 = V1.putObj l o') →
        body.wpIn (F.inRound l) (n - 1 - 1) P (ownPostG w.heap.size Kp I (fun _ _ _ => False) (pre ++ [x]) V2) a₁ V2) (fun _ _ _ => False)) { tmps := (ps.zip (encs x)).foldl (fun t (p, v) => t.setIfInBounds p v) a.tmps, defers := [] } V)
    (hSo : OwnFrom w.heap.size S)
    (hdone : ∀ (xs : List α) (W : World), S xs W → I xs W → W.heap[w.heap.size]? = some (.deferred (some [])) → Q .normal { a with defers := { target := .collected w.heap.size, args := #[] } :: a.defers } W) :
    (Code.rangeFunc g ps assign body).wpIn F n P Q a w := by
  refine wpIn_rangeFunc fun fn hfn => ?_
  rw [hro]
  -- the record in each of its states
  obtain ⟨st, hst⟩ : ∃ st : LoopState → Loop, st = fun s => { state := s, pending := none, fn, tmps := a.tmps, params := ps, assign, body, defers := w.heap.size } := ⟨_, rfl⟩
  obtain ⟨W1, hW1⟩ : ∃ W1, W1 = (w.alloc (.deferred (some []))).alloc (.loop (st .ready)) := ⟨_, rfl⟩
  have rec1 : W1.heap[w.heap.size + 1]? = some (.loop (st .ready)) := by
    rw [hW1]; simpa using World.alloc_heap_new (w.alloc (.deferred (some []))) (.loop (st .ready))
  have def1 : W1.heap[w.heap.size]? = some (.deferred (some [])) := by
    rw [hW1]; exact (Below.heap_alloc _ _ _ (by simp)).trans (World.alloc_heap_new w _)
  have i1 : I [] W1 := by rw [hW1]; exact hI.alloc _ (hI.alloc _ h0)
  have b1 : Below w0.heap.size w0 W1 := by
    rw [hW1]; exact (hb0.alloc hb0.size _).alloc (Nat.le_trans hb0.size (by simp)) _
  have z1 : W1.heap.size = w.heap.size + 2 := by rw [hW1]; simp
  -- a turn of a walk's object touches neither block of the loop's own
  have abide : ∀ {β : Type} {K : β → World → Prop}, OwnFrom w.heap.size K → ∀ s A B row, K s A → A.grownBy B row → (∀ r, row = some r → W1.heap.size ≤ r ∧ ∃ o : Obj, A.heap[r]? = some o ∧ o.isWalk = true) → K s B := by
    intro β K hK s A B row hs hgr hr
    exact hK s A B row hs hgr fun r e => ⟨by have := (hr r e).1; omega, by obtain ⟨o, ho, hw⟩ := (hr r e).2; exact ⟨o, ho, Obj.not_cells_of_walk hw⟩⟩
  refine ⟨w.heap.size + 1, [{ target := .collected w.heap.size, args := #[] }], W1, { target := .fn (.func gf) lb, args := #[.func (.yield (w.heap.size + 1)) #[] #[]] }, W1, gf,
    #[.func (.yield (w.heap.size + 1)) #[] #[]] ++ lb, W1, ?_, ?_, ?_, ?_, fun _ => h1, ?_⟩
  · rw [hW1, hst]; exact run_enterLoop_outer _ _ _ _ _
  · simp only [resolve, hg]; simp [go_sem]
  · intro f' hf'; simp [Target.leads] at hf'; subst hf'; exact hF
  · simp [invoke, go_sem, eg]
  refine (hseq (w.heap.size + 1) (fun pre W => I pre W ∧ W.heap[w.heap.size + 1]? = some (.loop (st .ready)) ∧ W.heap[w.heap.size]? = some (.deferred (some []))) W1 b1 ?_ ?_ ⟨i1, rec1, def1⟩).mono ?_
  · rintro s A B row ⟨hi, hl, hd⟩ hgr hr
    exact ⟨abide hI s A B row hi hgr hr, (grownBy_keeps hgr (fun r e => (hr r e).2) hl rfl).trans hl, (grownBy_keeps hgr (fun r e => (hr r e).2) hd rfl).trans hd⟩
  · rintro pre x V ⟨hi, hl, hd⟩ hlen
    have hlt : w.heap.size + 1 < V.heap.size := (Array.getElem?_eq_some_iff.1 hl).1
    have hy := run_yield (P := P) (args := encs x) hl (by rw [hst]; exact hps x)
    rw [hst] at hy
    refine ⟨fn, _, assign, body, hy, roundIn_of_wpIn hfn (wpIn_mono (hround _ pre x V (by omega) hi hlen) ?_)⟩
    rintro e a1 V1 hp
    cases e
    case normal =>
      obtain ⟨hbv, hkv, hbod⟩ := hp
      have hl1 : V1.heap[w.heap.size + 1]? = some (.loop (st .ready)) := (hbv.block _ hlt).trans hl
      have hd1 : V1.heap[w.heap.size]? = some (.deferred (some [])) := (hbv.block _ (by omega)).trans hd
      have hlt1 : w.heap.size + 1 < V1.heap.size := (Array.getElem?_eq_some_iff.1 hl1).1
      obtain ⟨V2, hV2⟩ : ∃ V2, V2 = V1.putObj (w.heap.size + 1) (.loop { st .ready with state := .busy }) := ⟨_, rfl⟩
      refine ⟨V2, by rw [hV2]; exact run_beginRound hl1 (by rw [hst]), ?_⟩
      have l2 : V2.heap[w.heap.size + 1]? = some (.loop { st .ready with state := .busy }) := by rw [hV2]; exact World.putObj_heap_same hlt1
      have d2 : V2.heap[w.heap.size]? = some (.deferred (some [])) := by rw [hV2]; exact (World.putObj_heap_other (by omega)).trans hd1
      have k2 : Kp V V2 := by rw [hV2]; exact hKt hkv (hKb _ _ _ _ (by omega) hl1 rfl rfl)
      refine wpIn_mono (hbod V2 ⟨_, _, hl1, rfl, hV2⟩) ?_
      rintro e a3 V3 hp
      cases e with
      | normal =>
        obtain ⟨hk3, hkp3, hi3⟩ := hp
        have l3 := hk3.same _ _ (by omega) l2 rfl
        have d3 := hk3.same _ _ (Nat.le_refl _) d2 rfl
        have hr := run_endRound (P := P) none l3
        rw [hst] at hr l3
        rw [hst]
        exact ⟨_, _, hr, rfl, ⟨hI.putObj _ hi3 (by omega) l3 rfl, World.putObj_heap_same (Array.getElem?_eq_some_iff.1 l3).1, (World.putObj_heap_other (by omega)).trans d3⟩, hKt (hKt k2 hkp3) (hKb _ _ _ _ (by omega) l3 rfl rfl)⟩
      | ret => exact hp.2.elim
      | exit id => exact hp.2.elim
      | goto t => exact hp.2.elim
      | panic ch => exact hp.elim
      | outgrown => exact hp.elim
    all_goals exact hp.elim
  · rintro e W2 ⟨⟨v, rfl⟩, xs, hS, hi, hl, hd⟩
    have hr := run_endLoop (P := P) hl (by rw [hst]; simp)
    rw [hst] at hr
    exact ⟨none, _, hr, hdone xs _ (hSo.putObj _ hS (by omega) hl rfl) (hI.putObj _ hi (by omega) hl rfl) ((World.putObj_heap_other (by omega)).trans hd)⟩
end Go.Proofs.YtgopajddloeclaaDoor
