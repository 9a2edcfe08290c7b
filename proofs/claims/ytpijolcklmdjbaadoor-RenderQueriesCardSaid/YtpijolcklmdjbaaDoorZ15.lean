/- Contracts and mathematics: SplitM, SignsM, Statement, Range, Seq. -/
import Derived.Test.YtpijolcklmdjbaaDoorZ14
import Derived.Deep.RegionHeld3
import Derived.Deep.QuietTactic
import Derived.IntWalk
import Derived.RangeFuncNested
import Derived.RangeFuncBound
import Derived.RangeFuncCalls
import Derived.RangeFuncLeaves
import Derived.RangeFuncWrites
import Derived.Shelf.Abstract
import Derived.Shelf.RegionOpen
import Derived.WalkKit
import Derived.OwnWalkIn
import Derived.TacticsInMore
import Derived.LoopNIn
import Derived.LoopIn
namespace Go.Proofs.YtpijolcklmdjbaaDoor

/-- The rows of tokens between the signs that part them. -/
def splitT : Nat → List Tok → List (List Tok)
  | 0, _ => []
  | f + 1, l => if l = [] then [] else (if semiAt l = 0 then [] else [l.take (semiAt l)]) ++ splitT f (l.drop (min (semiAt l + 1) l.length))

def splits (l : List Tok) : List (List Tok) := splitT l.length l

theorem splits_one {l : List Tok} (h : l ≠ []) (h0 : semiAt l ≠ 0) : ∃ r, splits l = l.take (semiAt l) :: r := by
  unfold splits
  cases l with
  | nil => exact absurd rfl h
  | cons t l =>
    rw [List.length_cons, splitT, if_neg h, if_neg h0]
    exact ⟨_, rfl⟩

theorem begins_snoc (x : Bs) : ∀ (W : List Bs) (l : List Tok), begins l (W ++ [x]) = true → ∃ q, l[W.length]? = some q ∧ q.text = x := by
  intro W
  induction W with
  | nil =>
    intro l h
    cases l with
    | nil => cases h
    | cons t l =>
      rw [List.nil_append, begins] at h
      simp only [Bool.and_eq_true, beq_iff_eq] at h
      exact ⟨t, rfl, h.1.2⟩
  | cons w W ih =>
    intro l h
    cases l with
    | nil => cases h
    | cons t l =>
      rw [List.cons_append, begins] at h
      simp only [Bool.and_eq_true] at h
      obtain ⟨q, hq, hx⟩ := ih l h.2
      exact ⟨q, by simpa using hq, hx⟩

/-- Tokens that are these words. -/
def Spell (A : List Tok) (W : List Bs) : Prop := A.map (fun t => (t.kind, t.text)) = W.map (fun x => ((119 : UInt8), x))

theorem begins_spell : ∀ (W : List Bs) (A B : List Tok), Spell A W → begins (A ++ B) W = true := by
  intro W
  induction W with
  | nil => intro A B _; cases (A ++ B) <;> rfl
  | cons w W ih =>
    intro A B h
    cases A with
    | nil => cases h
    | cons t A =>
      unfold Spell at h
      simp only [List.map_cons, List.cons.injEq, Prod.mk.injEq] at h
      rw [List.cons_append, begins, h.1.1, h.1.2, ih A B h.2]
      simp

theorem spell_length {A : List Tok} {W : List Bs} (h : Spell A W) : A.length = W.length := by
  have := congrArg List.length h
  simpa using this

theorem semiAt_spell : ∀ (W : List Bs) (A B : List Tok), Spell A W → semiAt (A ++ B) = W.length + semiAt B := by
  intro W
  induction W with
  | nil => intro A B h; have := spell_length h; rw [List.length_eq_zero_iff.1 this]; simp
  | cons w W ih =>
    intro A B h
    cases A with
    | nil => cases h
    | cons t A =>
      unfold Spell at h
      simp only [List.map_cons, List.cons.injEq, Prod.mk.injEq] at h
      rw [List.cons_append, semiAt_cons, if_neg (by unfold semi; rw [h.1.1]; simp), ih A B h.2, List.length_cons]
      omega

/-- The first statement of a text that begins with words begins with them. -/
theorem first_spell {W : List Bs} {A B : List Tok} (h : Spell A W) (hW : W ≠ []) : ∃ r, splits (A ++ B) = (A ++ B.take (semiAt B)) :: r := by
  have hl := spell_length h
  have h0 : 0 < W.length := List.length_pos_iff.2 hW
  obtain ⟨r, hr⟩ := splits_one (l := A ++ B) (by intro e; have := congrArg List.length e; simp at this; rw [this.1] at hl; simp at hl; omega) (by rw [semiAt_spell W A B h]; omega)
  refine ⟨r, ?_⟩
  rw [hr, semiAt_spell W A B h, ← hl, List.take_length_add_append]

def wordList : List Bs := [[115, 101, 116], [108, 111, 99, 97, 108], [98, 101, 103, 105, 110], [120]]
def between : Bs := [32, 47, 42, 32, 59, 32, 42, 47]
def wordsText (W : List Bs) : Bs := W.flatMap fun w => w ++ (between ++ [10])

theorem word_tokens {w : Bs} (h : w ∈ wordList) : tokens (w ++ between) = some [⟨119, w, 0, w.length⟩] := by
  simp only [wordList, List.mem_cons, List.not_mem_nil, or_false] at h
  rcases h with rfl | rfl | rfl | rfl <;> rfl

theorem spell_moved {A : List Tok} {W : List Bs} (h : Spell A W) (k : Nat) : Spell (A.map (moved k)) W := by
  unfold Spell at h ⊢
  rw [← h, List.map_map]; rfl

theorem tokens_words : ∀ (W : List Bs), (∀ w ∈ W, w ∈ wordList) → ∀ more : Bs, ∃ A k, Spell A W ∧ tokens (wordsText W ++ more) = (tokens more).map fun R => A ++ R.map (moved k) := by
  intro W
  induction W with
  | nil =>
    intro _ more
    refine ⟨[], 0, rfl, ?_⟩
    show tokens more = _
    cases tokens more with
    | none => rfl
    | some R =>
      show some R = some ([] ++ R.map (moved 0))
      rw [List.nil_append]
      congr 1
      conv => lhs; rw [← List.map_id R]
      exact List.map_congr_left fun q _ => rfl
  | cons w W ih =>
    intro h more
    obtain ⟨A, k, hA, ht⟩ := ih (fun x hx => h x (List.mem_cons_of_mem _ hx)) more
    have hj := tokens_join (w ++ between) (wordsText W ++ more) (word_tokens (h w (List.mem_cons_self ..)))
    refine ⟨⟨119, w, 0, w.length⟩ :: A.map (moved ((w ++ between).length + 1)), k + ((w ++ between).length + 1), ?_, ?_⟩
    · show (119, w) :: _ = (119, w) :: _
      rw [show (A.map (moved ((w ++ between).length + 1))).map (fun t => (t.kind, t.text)) = W.map (fun x => ((119 : UInt8), x)) from spell_moved hA _]
    · rw [show wordsText (w :: W) ++ more = (w ++ between) ++ 10 :: (wordsText W ++ more) by simp [wordsText], hj, ht, Option.map_map]
      congr 1
      funext R
      simp only [Function.comp, List.map_append, List.map_map]
      rw [List.cons_append, List.nil_append, List.cons_append]
      congr 2
      refine List.map_congr_left fun q _ => ?_
      show (⟨q.kind, q.text, q.lo + k + _, q.hi + k + _⟩ : Tok) = ⟨q.kind, q.text, q.lo + (k + _), q.hi + (k + _)⟩
      congr 1 <;> omega
end Go.Proofs.YtpijolcklmdjbaaDoor

namespace Go.Proofs.YtpijolcklmdjbaaDoor

theorem sk_comment (r : Bs) : ∀ t : Bs, (42 : UInt8) ∉ t → (47 : UInt8) ∉ t → sk (t ++ 42 :: 47 :: r) 3 = sk r 0 := by
  intro t
  induction t with
  | nil => intro _ _; rw [List.nil_append, sk]; simp
  | cons a t ih =>
    intro h1 h2
    simp only [List.mem_cons, not_or] at h1 h2
    have := ih h1.2 h2.2
    cases hl : t ++ 42 :: 47 :: r with
    | nil => simp at hl
    | cons b q =>
      rw [hl] at this
      rw [List.cons_append, hl, sk]
      rw [if_neg (fun e => h2.1 e.1.symm), if_neg (fun e => h1.1 e.1.symm)]
      exact this

theorem quoted_read (t rest : Bs) (h : rest.head? ≠ some 39) : ∃ a q, quoted 39 t ++ rest = a :: q ∧ sk (a :: q) 0 = some (a :: q) ∧ token (a :: q) = some (115, t, rest) := by
  refine ⟨39, doubled 39 t ++ 39 :: rest, by unfold quoted; simp, ?_, token_text_read t rest h⟩
  exact sk_first (by decide) (fun e => by cases e.1) (fun e => by cases e.1)
theorem quoted_name_read (t rest : Bs) (h0 : t ≠ []) (h : rest.head? ≠ some 34) : ∃ a q, quoted 34 t ++ rest = a :: q ∧ sk (a :: q) 0 = some (a :: q) ∧ token (a :: q) = some (113, t, rest) := by
  refine ⟨34, doubled 34 t ++ 34 :: rest, by unfold quoted; simp, ?_, token_name_read t rest h0 h⟩
  exact sk_first (by decide) (fun e => by cases e.1) (fun e => by cases e.1)

/-- A text and a name as text. -/
theorem fields_two (s x : Bs) : fieldsB [⟨115, s, 0, 0⟩, ⟨113, x, 0, 0⟩] = quoted 39 s ++ 32 :: quoted 34 x := by
  simp [fieldsB, fieldT]

theorem two_kts (s x rest : Bs) (hx : x ≠ []) (h : rest.head? ≠ some 34) : kts (quoted 39 s ++ 32 :: (quoted 34 x ++ rest)) = (kts rest).map fun K => (115, s) :: (113, x) :: K := by
  obtain ⟨a, q, e1, h1, h2⟩ := quoted_read s (32 :: (quoted 34 x ++ rest)) (by simp)
  obtain ⟨a', q', e3, h3, h4⟩ := quoted_name_read x rest hx h
  rw [e1, kts_step h1 h2]
  have : kts (32 :: (quoted 34 x ++ rest)) = (kts rest).map ((113, x) :: ·) := by
    rw [e3]
    exact kts_step (by rw [sk_blank' _ _ (by decide)]; exact h3) h4
  rw [this, Option.map_map]; rfl

theorem signs_kts (s y x : Bs) (h1 : (42 : UInt8) ∉ s) (h2 : (47 : UInt8) ∉ s) (hx : x ≠ []) : kts (120 :: 32 :: 47 :: 42 :: 32 :: 59 :: 32 :: (s ++ 42 :: 47 :: (quoted 39 y ++ 32 :: (quoted 34 x ++ [59, 121, 45, 45, 59])))) = some [(119, [120]), (115, y), (113, x), (111, [59]), (119, [121])] := by
  have e0 : kts (120 :: 32 :: 47 :: 42 :: 32 :: 59 :: 32 :: (s ++ 42 :: 47 :: (quoted 39 y ++ 32 :: (quoted 34 x ++ [59, 121, 45, 45, 59])))) = (kts (32 :: 47 :: 42 :: 32 :: 59 :: 32 :: (s ++ 42 :: 47 :: (quoted 39 y ++ 32 :: (quoted 34 x ++ [59, 121, 45, 45, 59]))))).map ((119, [120]) :: ·) :=
    kts_step (sk_first (by decide) (fun e => by cases e.1) (fun e => by cases e.1)) (token_word_read 120 [] _ (by decide) (fun c hc => by simp at hc; subst hc; exact ⟨rfl, rfl⟩) (by simp) (by simp) (fun c hc => by simp at hc; subst hc; rfl))
  have hsk : sk (32 :: 47 :: 42 :: 32 :: 59 :: 32 :: (s ++ 42 :: 47 :: (quoted 39 y ++ 32 :: (quoted 34 x ++ [59, 121, 45, 45, 59])))) 0 = sk (quoted 39 y ++ 32 :: (quoted 34 x ++ [59, 121, 45, 45, 59])) 0 := by
    rw [sk_blank' _ _ (by decide)]
    show sk ((32 :: 59 :: 32 :: s) ++ 42 :: 47 :: (quoted 39 y ++ 32 :: (quoted 34 x ++ [59, 121, 45, 45, 59]))) 3 = _
    exact sk_comment _ _ (by simp [h1]) (by simp [h2])
  have e1 : kts (32 :: 47 :: 42 :: 32 :: 59 :: 32 :: (s ++ 42 :: 47 :: (quoted 39 y ++ 32 :: (quoted 34 x ++ [59, 121, 45, 45, 59])))) = kts (quoted 39 y ++ 32 :: (quoted 34 x ++ [59, 121, 45, 45, 59])) := by
    obtain ⟨a, q, e1, h1, h2⟩ := quoted_read y (32 :: (quoted 34 x ++ [59, 121, 45, 45, 59])) (by simp)
    rw [kts_step (by rw [hsk, e1]; exact h1) h2, e1, kts_step h1 h2]
  have e2 : kts [59, 121, 45, 45, 59] = some [(111, [59]), (119, [121])] := by rfl
  rw [e0, e1, two_kts y x _ hx (by simp), e2]; rfl

theorem semiAt_nil : semiAt [] = 0 := rfl
/-- Three tokens, the sign, one more. -/
theorem splits_signs {L : List Tok} {y x : Bs} (h : L.map kt = [(119, [120]), (115, y), (113, x), (111, [59]), (119, [121])]) : ∃ q0 q1 q2 q4, splits L = [[q0, q1, q2], [q4]] ∧ kt q0 = (119, [120]) ∧ kt q1 = (115, y) ∧ kt q4 = (119, [121]) := by
  have hl := congrArg List.length h
  match L, hl with
  | [q0, q1, q2, q3, q4], _ =>
    simp only [List.map_cons, List.map_nil, List.cons.injEq, and_true] at h
    obtain ⟨e0, e1, e2, e3, e4⟩ := h
    have s0 : semi q0 = false := by unfold semi; rw [show q0.kind = 119 from congrArg Prod.fst e0]; rfl
    have s1 : semi q1 = false := by unfold semi; rw [show q1.kind = 115 from congrArg Prod.fst e1]; rfl
    have s2 : semi q2 = false := by unfold semi; rw [show q2.kind = 113 from congrArg Prod.fst e2]; rfl
    have s3 : semi q3 = true := by unfold semi; rw [show q3.kind = 111 from congrArg Prod.fst e3, show q3.text = [59] from congrArg Prod.snd e3]; rfl
    have s4 : semi q4 = false := by unfold semi; rw [show q4.kind = 119 from congrArg Prod.fst e4]; rfl
    refine ⟨q0, q1, q2, q4, ?_, e0, e1, e4⟩
    simp [splits, splitT, semiAt_cons, s0, s1, s2, s3, s4, semiAt_nil]
end Go.Proofs.YtpijolcklmdjbaaDoor

namespace Go.Proofs.YtpijolcklmdjbaaDoor
open Go.RowKit Go.Lib Go.WideShapes

/-- What the region reads and writes. -/
def Seen (w : World) (g o1 o2 b0 : Nat) (a b : Int) (w' : World) : Prop := (w'.cell? ⟨g, o1, none⟩ = some (.int .i64 a) ∧ w'.cell? ⟨g, o2, none⟩ = some (.int .i64 b) ∧ w'.cell? ⟨b0, 0, none⟩ = some (.slice none 0 0) ∧ w'.cell? ⟨b0, 1, none⟩ = some (.int .i64 0) ∧ w'.cell? ⟨b0, 2, none⟩ = some (.int .i64 0) ∧ w'.frozen? ⟨b0, 0, none⟩ = false ∧ w'.frozen? ⟨b0, 1, none⟩ = false ∧ w'.frozen? ⟨b0, 2, none⟩ = false) ∧ Below w.heap.size w w' ∧ w.heap.size ≤ w'.heap.size

theorem seen_step {w w' w'' : World} {g o1 o2 b0 : Nat} {a b : Int} (h : Seen w g o1 o2 b0 a b w') (hg : g < w.heap.size) (hb0 : b0 < w.heap.size) (hb : Below w'.heap.size w' w'') : Seen w g o1 o2 b0 a b w'' := by
  obtain ⟨⟨h1, h2, h3, h4, h5, h6, h7, h8⟩, h9, h10⟩ := h
  have hg' : g < w'.heap.size := Nat.lt_of_lt_of_le hg h10
  have hb' : b0 < w'.heap.size := Nat.lt_of_lt_of_le hb0 h10
  exact ⟨⟨(hb.cell hg').trans h1, (hb.cell hg').trans h2, (hb.cell hb').trans h3, (hb.cell hb').trans h4, (hb.cell hb').trans h5, (hb.frozen hb').trans h6, (hb.frozen hb').trans h7, (hb.frozen hb').trans h8⟩, h9.step hb h10, Nat.le_trans h10 hb.size⟩

/-- What the region reads. -/
def Lies (w w1 : World) (g o1 o2 : Nat) (a b : Int) (w' : World) : Prop := (w'.cell? ⟨g, o1, none⟩ = some (.int .i64 a) ∧ w'.cell? ⟨g, o2, none⟩ = some (.int .i64 b)) ∧ Below w.heap.size w w' ∧ w1.heap.size ≤ w'.heap.size

theorem lies_put {w w1 w' : World} {g o1 o2 : Nat} {a b : Int} (h : Lies w w1 g o1 o2 a b w') (hg : g < w.heap.size) (x y z : Value) : Lies w w1 g o1 o2 a b (((w'.setCell ⟨w.heap.size, 0, none⟩ x).setCell ⟨w.heap.size, 1, none⟩ y).setCell ⟨w.heap.size, 2, none⟩ z) := by
  obtain ⟨⟨h1, h2⟩, h3, h4⟩ := h
  have hne : ∀ o k, (⟨w.heap.size, k, none⟩ : Addr) ≠ ⟨g, o, none⟩ := fun o k e => by cases e; omega
  refine ⟨⟨?_, ?_⟩, ((h3.setCell (p := ⟨_, _, none⟩) (Nat.le_refl _) _).setCell (p := ⟨_, _, none⟩) (Nat.le_refl _) _).setCell (p := ⟨_, _, none⟩) (Nat.le_refl _) _, by simpa [World.setCell] using h4⟩
  · rw [World.cell?_setCell_other _ _ _ _ (hne _ _), World.cell?_setCell_other _ _ _ _ (hne _ _), World.cell?_setCell_other _ _ _ _ (hne _ _)]; exact h1
  · rw [World.cell?_setCell_other _ _ _ _ (hne _ _), World.cell?_setCell_other _ _ _ _ (hne _ _), World.cell?_setCell_other _ _ _ _ (hne _ _)]; exact h2

theorem put_cells {w : World} {b : Nat} {x0 y0 z0 : Value} (h0 : w.cell? ⟨b, 0, none⟩ = some x0) (h1 : w.cell? ⟨b, 1, none⟩ = some y0) (h2 : w.cell? ⟨b, 2, none⟩ = some z0) (x y z : Value) : (((w.setCell ⟨b, 0, none⟩ x).setCell ⟨b, 1, none⟩ y).setCell ⟨b, 2, none⟩ z).cell? ⟨b, 0, none⟩ = some x ∧ (((w.setCell ⟨b, 0, none⟩ x).setCell ⟨b, 1, none⟩ y).setCell ⟨b, 2, none⟩ z).cell? ⟨b, 1, none⟩ = some y ∧ (((w.setCell ⟨b, 0, none⟩ x).setCell ⟨b, 1, none⟩ y).setCell ⟨b, 2, none⟩ z).cell? ⟨b, 2, none⟩ = some z := by
  have n1 : (⟨b, 1, none⟩ : Addr) ≠ ⟨b, 0, none⟩ := fun e => by cases e
  have n2 : (⟨b, 2, none⟩ : Addr) ≠ ⟨b, 0, none⟩ := fun e => by cases e
  have n3 : (⟨b, 2, none⟩ : Addr) ≠ ⟨b, 1, none⟩ := fun e => by cases e
  refine ⟨?_, ?_, ?_⟩
  · rw [World.cell?_setCell_other _ _ _ _ n2, World.cell?_setCell_other _ _ _ _ n1]; exact World.cell?_setCell_same _ _ _ h0
  · rw [World.cell?_setCell_other _ _ _ _ n3]; exact World.cell?_setCell_same _ _ _ ((World.cell?_setCell_other _ _ _ _ n1.symm).trans h1)
  · exact World.cell?_setCell_same _ _ _ ((World.cell?_setCell_other _ _ _ _ n3.symm).trans ((World.cell?_setCell_other _ _ _ _ n2.symm).trans h2))

theorem rowOf_put {w : World} {b gu : Nat} (h : RowOf w gu) (hne : gu ≠ b) (x y z : Value) : RowOf (((w.setCell ⟨b, 0, none⟩ x).setCell ⟨b, 1, none⟩ y).setCell ⟨b, 2, none⟩ z) gu := by
  obtain ⟨row, k, h⟩ := h
  exact ⟨row, k, (Below.heap_setCell _ _ _ _ hne).trans ((Below.heap_setCell _ _ _ _ hne).trans ((Below.heap_setCell _ _ _ _ hne).trans h))⟩

theorem tokAt_put {w : World} {b gu : Nat} {l : List Tok} (h : TokAt w (some ⟨gu, 0, none⟩) l) (hne : gu ≠ b) (x y z : Value) : TokAt (((w.setCell ⟨b, 0, none⟩ x).setCell ⟨b, 1, none⟩ y).setCell ⟨b, 2, none⟩ z) (some ⟨gu, 0, none⟩) l := by
  intro i q hq
  obtain ⟨g, hg, hgl, h0, h1, h2, h3⟩ := h i q hq
  cases hg
  have hn : ∀ o k, (⟨b, k, none⟩ : Addr) ≠ ⟨gu, o, none⟩ := fun o k e => by cases e; exact hne rfl
  have hh : ∀ o, (((w.setCell ⟨b, 0, none⟩ x).setCell ⟨b, 1, none⟩ y).setCell ⟨b, 2, none⟩ z).cell? ⟨gu, o, none⟩ = w.cell? ⟨gu, o, none⟩ := fun o => by
    rw [World.cell?_setCell_other _ _ _ _ (hn _ _), World.cell?_setCell_other _ _ _ _ (hn _ _), World.cell?_setCell_other _ _ _ _ (hn _ _)]
  exact ⟨gu, rfl, by simpa [World.setCell] using hgl, (hh _).trans h0, (hh _).trans h1, (hh _).trans h2, (hh _).trans h3⟩

end Go.Proofs.YtpijolcklmdjbaaDoor

namespace Go.Proofs.YtpijolcklmdjbaaDoor
open Go.RowKit Go.Shelf

/-- What the iterator promises: whatever the rounds keep (J), and what lies behind the things that it handed on (S), the world that it leaves included. -/
def Runs {α : Type} (F : Fence) (n : Nat) (P : Program) (gf : Nat) (lb : Array Value) (encs : α → Array Value) (Kp : World → World → Prop) (S : List α → World → Prop) (N : Nat) (w : World) : Prop :=
  ∀ (l : Nat) (J : List α → World → Prop) (W : World), Below w.heap.size w W → AbidesFrom W.heap.size J →
    (∀ pre x V, J pre V → pre.length < N → YieldAt F (n - 1) P l (encs x) V fun e V' => e = .returned (.bool true) ∧ J (pre ++ [x]) V' ∧ Kp V V') →
    J [] W → CallsIn F n P gf (#[.func (.yield l) #[] #[]] ++ lb) W fun e W' => (∃ v, e = .returned v) ∧ ∃ xs, S xs W' ∧ J xs W'

theorem range_runs {α : Type} {F : Fence} {n : Nat} {P : Program} {g : Operand} {ps : Array Tmp} {assign body : Code} {Q : Exit → Act → World → Prop} {a : Act} {w w0 : World}
    (hro : F.round = none) (h1 : 1 ≤ n) {gf : Nat} {lb : Array Value} (hg : a.eval g = .func (.func gf) #[] lb) (hF : F.fn gf) (eg : ∀ args w, (callFunc gf args).run P w = .ok (.enter gf args) w)
    {encs : α → Array Value} {Kp : World → World → Prop} {S : List α → World → Prop} {N : Nat} (hseq : Runs F (n - 1) P gf lb encs Kp S N w0) (hb0 : Below w0.heap.size w0 w)
    (hKt : ∀ {A B C : World}, Kp A B → Kp B C → Kp A C) (hKb : ∀ (W : World) (l : Nat) (o o' : Obj), w.heap.size ≤ l → W.heap[l]? = some o → o.isCells = false → o.isWalk = false → Kp W (W.putObj l o'))
    (hps : ∀ x, (encs x).size = ps.size) (I : List α → World → Prop) (hI : OwnFrom w.heap.size I) (h0 : I [] w)
    (hround : ∀ (l : Nat) (pre : List α) (x : α) (V : World), w.heap.size ≤ l → I pre V → pre.length < N →
      assign.wpIn (F.inRound l) (n - 1 - 1) P (Exit.then (fun a₁ V1 => Below V.heap.size V V1 ∧ Kp V V1 ∧ ∀ V2, (∃ o o' : Obj, V1.heap[l]? = some o ∧ o.isCells = false ∧ V2 = V1.putObj l o') →
        body.wpIn (F.inRound l) (n - 1 - 1) P (ownPostG w.heap.size Kp I (fun _ _ _ => False) (pre ++ [x]) V2) a₁ V2) (fun _ _ _ => False)) { tmps := (ps.zip (encs x)).foldl (fun t (p, v) => t.setIfInBounds p v) a.tmps, defers := [] } V)
    (hSo : OwnFrom w.heap.size S)
    (hdone : ∀ (xs : List α) (W : World), S xs W → I xs W → W.heap[w.heap.size]? = some (.deferred (some [])) → Q .normal { a with defers := { target := .collected w.heap.size, args := #[] } :: a.defers } W) :
    (Code.rangeFunc g ps assign body).wpIn F n P Q a w := by
  refine wpIn_rangeFunc fun fn hfn => ?_
  rw [hro]
  -- the record in each of its states
  obtain ⟨st, hst⟩ : ∃ st : LoopState → Loop, st = fun s => { state := s, pending := none, fn, tmps := a.tmps, params := ps, assign, body, defers := w.heap.size } := ⟨_, rfl⟩
  obtain ⟨W1, hW1⟩ : ∃ W1, W1 = (w.alloc (.deferred (some []))).alloc (.loop (st .ready)) := ⟨_, rfl⟩
  have rec1 : W1.heap[w.heap.size + 1]? = some (.loop (st .ready)) := by
    rw [hW1]; simpa using World.alloc_heap_new (w.alloc (.deferred (some []))) (.loop (st .ready))
  have def1 : W1.heap[w.heap.size]? = some (.deferred (some [])) := by
    rw [hW1]; exact (Below.heap_alloc _ _ _ (by simp)).trans (World.alloc_heap_new w _)
  have i1 : I [] W1 := by rw [hW1]; exact hI.alloc _ (hI.alloc _ h0)
  have b1 : Below w0.heap.size w0 W1 := by
    rw [hW1]; exact (hb0.alloc hb0.size _).alloc (Nat.le_trans hb0.size (by simp)) _
  have z1 : W1.heap.size = w.heap.size + 2 := by rw [hW1]; simp
  -- a turn of a walk's object touches neither block of the loop's own
  have abide : ∀ {β : Type} {K : β → World → Prop}, OwnFrom w.heap.size K → ∀ s A B row, K s A → A.grownBy B row → (∀ r, row = some r → W1.heap.size ≤ r ∧ ∃ o : Obj, A.heap[r]? = some o ∧ o.isWalk = true) → K s B := by
    intro β K hK s A B row hs hgr hr
    exact hK s A B row hs hgr fun r e => ⟨by have := (hr r e).1; omega, by obtain ⟨o, ho, hw⟩ := (hr r e).2; exact ⟨o, ho, Obj.not_cells_of_walk hw⟩⟩
  refine ⟨w.heap.size + 1, [{ target := .collected w.heap.size, args := #[] }], W1, { target := .fn (.func gf) lb, args := #[.func (.yield (w.heap.size + 1)) #[] #[]] }, W1, gf,
    #[.func (.yield (w.heap.size + 1)) #[] #[]] ++ lb, W1, ?_, ?_, ?_, ?_, fun _ => h1, ?_⟩
  · rw [hW1, hst]; exact run_enterLoop_outer _ _ _ _ _
  · simp only [resolve, hg]; simp [go_sem]
  · intro f' hf'; simp [Target.leads] at hf'; subst hf'; exact hF
  · simp [invoke, go_sem, eg]
  refine (hseq (w.heap.size + 1) (fun pre W => I pre W ∧ W.heap[w.heap.size + 1]? = some (.loop (st .ready)) ∧ W.heap[w.heap.size]? = some (.deferred (some []))) W1 b1 ?_ ?_ ⟨i1, rec1, def1⟩).mono ?_
  · rintro s A B row ⟨hi, hl, hd⟩ hgr hr
    exact ⟨abide hI s A B row hi hgr hr, (grownBy_keeps hgr (fun r e => (hr r e).2) hl rfl).trans hl, (grownBy_keeps hgr (fun r e => (hr r e).2) hd rfl).trans hd⟩
  · rintro pre x V ⟨hi, hl, hd⟩ hlen
    have hlt : w.heap.size + 1 < V.heap.size := (Array.getElem?_eq_some_iff.1 hl).1
    have hy := run_yield (P := P) (args := encs x) hl (by rw [hst]; exact hps x)
    rw [hst] at hy
    refine ⟨fn, _, assign, body, hy, roundIn_of_wpIn hfn (wpIn_mono (hround _ pre x V (by omega) hi hlen) ?_)⟩
    rintro e a1 V1 hp
    cases e
    case normal =>
      obtain ⟨hbv, hkv, hbod⟩ := hp
      have hl1 : V1.heap[w.heap.size + 1]? = some (.loop (st .ready)) := (hbv.block _ hlt).trans hl
      have hd1 : V1.heap[w.heap.size]? = some (.deferred (some [])) := (hbv.block _ (by omega)).trans hd
      have hlt1 : w.heap.size + 1 < V1.heap.size := (Array.getElem?_eq_some_iff.1 hl1).1
      obtain ⟨V2, hV2⟩ : ∃ V2, V2 = V1.putObj (w.heap.size + 1) (.loop { st .ready with state := .busy }) := ⟨_, rfl⟩
      refine ⟨V2, by rw [hV2]; exact run_beginRound hl1 (by rw [hst]), ?_⟩
      have l2 : V2.heap[w.heap.size + 1]? = some (.loop { st .ready with state := .busy }) := by rw [hV2]; exact World.putObj_heap_same hlt1
      have d2 : V2.heap[w.heap.size]? = some (.deferred (some [])) := by rw [hV2]; exact (World.putObj_heap_other (by omega)).trans hd1
      have k2 : Kp V V2 := by rw [hV2]; exact hKt hkv (hKb _ _ _ _ (by omega) hl1 rfl rfl)
      refine wpIn_mono (hbod V2 ⟨_, _, hl1, rfl, hV2⟩) ?_
      rintro e a3 V3 hp
      cases e with
      | normal =>
        obtain ⟨hk3, hkp3, hi3⟩ := hp
        have l3 := hk3.same _ _ (by omega) l2 rfl
        have d3 := hk3.same _ _ (Nat.le_refl _) d2 rfl
        have hr := run_endRound (P := P) none l3
        rw [hst] at hr l3
        rw [hst]
        exact ⟨_, _, hr, rfl, ⟨hI.putObj _ hi3 (by omega) l3 rfl, World.putObj_heap_same (Array.getElem?_eq_some_iff.1 l3).1, (World.putObj_heap_other (by omega)).trans d3⟩, hKt (hKt k2 hkp3) (hKb _ _ _ _ (by omega) l3 rfl rfl)⟩
      | ret => exact hp.2.elim
      | exit id => exact hp.2.elim
      | goto t => exact hp.2.elim
      | panic ch => exact hp.elim
      | outgrown => exact hp.elim
    all_goals exact hp.elim
  · rintro e W2 ⟨⟨v, rfl⟩, xs, hS, hi, hl, hd⟩
    have hr := run_endLoop (P := P) hl (by rw [hst]; simp)
    rw [hst] at hr
    exact ⟨none, _, hr, hdone xs _ (hSo.putObj _ hS (by omega) hl rfl) (hI.putObj _ hi (by omega) hl rfl) ((World.putObj_heap_other (by omega)).trans hd)⟩
end Go.Proofs.YtpijolcklmdjbaaDoor

namespace Go.Proofs.YtpijolcklmdjbaaDoor
open Go.RowKit Go.Lib Go.WideShapes Go.Shelf

attribute [local go_sem] Oper.semAt_some

/-- A statement as it is handed on. -/
structure St where
  u : Option Addr
  d : Nat
  toks : List Tok

def St.lo (x : St) : Int := (x.toks.head?.map (fun t => (t.lo : Int))).getD 0
def St.hi (x : St) : Int := (x.toks.getLast?.map (fun t => (t.hi : Int))).getD 0
def stV (x : St) : Value := .agg #[.slice x.u x.toks.length x.d, .int .i64 x.lo, .int .i64 x.hi]

/-- Tokens in a row of their own type. -/
def TokIn (w : World) (u : Option Addr) (l : List Tok) : Prop := l = [] ∨ ∃ g off, u = some ⟨g, off, none⟩ ∧ RowOf w g ∧ TokOff w u l

/-- Rows of tokens lie as they lay. -/
def KeepsToks (V W : World) : Prop := V.heap.size ≤ W.heap.size ∧ ∀ (g : Nat) row k, V.heap[g]? = some (Obj.cells row 48 k) → W.heap[g]? = V.heap[g]?

theorem KeepsToks.refl (W : World) : KeepsToks W W := ⟨Nat.le_refl _, fun _ _ _ _ => rfl⟩
theorem KeepsToks.trans {A B C : World} (h : KeepsToks A B) (k : KeepsToks B C) : KeepsToks A C := by
  refine ⟨Nat.le_trans h.1 k.1, fun g row q hg => ?_⟩
  have h1 := h.2 g row q hg
  exact (k.2 g row q (h1.trans hg)).trans h1
theorem KeepsToks.below {A B : World} (h : Below A.heap.size A B) : KeepsToks A B := ⟨h.size, fun g _ _ hg => h.block g (Array.getElem?_eq_some_iff.1 hg).1⟩

theorem cell_of_heap {V W : World} {g : Nat} (h : W.heap[g]? = V.heap[g]?) (j : Nat) : W.cell? ⟨g, j, none⟩ = V.cell? ⟨g, j, none⟩ := by
  unfold World.cell?
  rw [show W.heap[(⟨g, j, none⟩ : Addr).block]? = V.heap[(⟨g, j, none⟩ : Addr).block]? from h]

theorem TokIn.kept {V W : World} {u : Option Addr} {l : List Tok} (h : TokIn V u l) (hk : KeepsToks V W) : TokIn W u l := by
  rcases h with h | ⟨g, off, rfl, ⟨row, k, hg⟩, ht⟩
  · exact .inl h
  · have e := hk.2 g row k hg
    refine .inr ⟨g, off, rfl, ⟨row, k, e.trans hg⟩, ?_⟩
    rcases ht with ht | ⟨g', off', hp, hg', hc⟩
    · exact .inl ht
    · cases hp
      refine .inr ⟨_, _, rfl, Nat.lt_of_lt_of_le hg' hk.1, fun i q hq => ?_⟩
      obtain ⟨h0, h1, h2, h3⟩ := hc i q hq
      exact ⟨(cell_of_heap e _).trans h0, (cell_of_heap e _).trans h1, (cell_of_heap e _).trans h2, (cell_of_heap e _).trans h3⟩
def lenOf : Value → Nat
  | .slice _ n _ => n
  | _ => 0

/-- What lies behind a statement. -/
def StIn (w : World) (x : St) : Prop := TokIn w x.u x.toks ∧ (∃ g, x.u = some ⟨g, 0, none⟩) ∧ x.toks.length ≤ x.d ∧ x.d ≤ 9223372036854775807
theorem StIn.kept {V W : World} {x : St} (h : StIn V x) (hk : KeepsToks V W) : StIn W x := ⟨h.1.kept hk, h.2⟩
theorem StIn.at {w : World} {x : St} (h : StIn w x) : TokAt w x.u x.toks := by
  obtain ⟨h, ⟨g0, e⟩, _⟩ := h
  intro i q hq
  rcases h with h | ⟨g, off, hp, hr, ht⟩
  · rw [h] at hq; cases hq
  · rw [e] at hp; cases hp
    rcases ht with h | ⟨g', off, hp, hg, hc⟩
    · rw [h] at hq; cases hq
    · rw [e] at hp; cases hp
      have := hc i q hq
      rw [Nat.zero_add] at this
      exact ⟨_, e, hg, this⟩

/-- What lies behind the statements that were handed on. -/
def Handed (l : List Tok) (xs : List St) (W : World) : Prop := xs.map St.toks = splits l ∧ ∀ x ∈ xs, StIn W x

theorem splitT_cons (f : Nat) (t : Tok) (l : List Tok) : splitT (f + 1) (t :: l) = (if semiAt (t :: l) = 0 then [] else [(t :: l).take (semiAt (t :: l))]) ++ splitT f ((t :: l).drop (min (semiAt (t :: l) + 1) (l.length + 1))) := by
  rw [splitT, if_neg (List.cons_ne_nil t l), List.length_cons]

theorem splitT_fuel : ∀ (n : Nat) (f : Nat) (l : List Tok), l.length ≤ n → l.length ≤ f → splitT f l = splitT l.length l := by
  intro n
  induction n with
  | zero =>
    intro f l h _
    have : l = [] := List.length_eq_zero_iff.1 (by omega)
    subst this
    cases f <;> rfl
  | succ n ih =>
    intro f l h hf
    cases l with
    | nil => cases f <;> rfl
    | cons t l =>
      rw [List.length_cons] at h hf
      match f with
      | f + 1 =>
        rw [List.length_cons, splitT_cons, splitT_cons]
        have hd : ((t :: l).drop (min (semiAt (t :: l) + 1) (l.length + 1))).length ≤ l.length := by
          rw [List.length_drop, List.length_cons]; omega
        rw [ih f _ (by omega) (by omega), ih l.length _ (by omega) hd]

theorem splits_step {R : List Tok} (h : R ≠ []) : splits R = (if semiAt R = 0 then [] else [R.take (semiAt R)]) ++ splits (R.drop (min (semiAt R + 1) R.length)) := by
  cases R with
  | nil => exact absurd rfl h
  | cons t l =>
    unfold splits
    have hd : ((t :: l).drop (min (semiAt (t :: l) + 1) (l.length + 1))).length ≤ l.length := by
      rw [List.length_drop, List.length_cons]; omega
    rw [List.length_cons, splitT_cons, splitT_fuel l.length l.length _ hd hd]

end Go.Proofs.YtpijolcklmdjbaaDoor
