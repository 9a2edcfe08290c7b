/- Contracts and mathematics: Seq, ManyM. -/
import Derived.Test.YtgopajddloeclaaDoorZ22
namespace Go.Proofs.YtgopajddloeclaaDoor
open Go.RowKit Go.Lib Go.WideShapes Go.Shelf

attribute [local go_sem] Oper.semAt_some

/-- A statement as it is handed on. -/
structure St where
  u : Option Addr
  d : Nat
  toks : List Tok

def St.lo (x : St) : Int := (x.toks.head?.map (fun t => (t.lo : Int))).getD 0
def St.hi (x : St) : Int := (x.toks.getLast?.map (fun t => (t.hi : Int))).getD 0
def stV (x : St) : Value := .agg #[.slice x.u x.toks.length x.d, .int .i64 x.lo, .int .i64 x.hi]

/-- Tokens in a row of their own type. -/
def TokIn (w : World) (u : Option Addr) (l : List Tok) : Prop := l = [] ∨ ∃ g off, u = some ⟨g, off, none⟩ ∧ RowOf w g ∧ TokOff w u l

/-- Rows of tokens lie as they lay. -/
def KeepsToks (V W : World) : Prop := V.heap.size ≤ W.heap.size ∧ ∀ (g : Nat) row k, V.heap[g]? = some (Obj.cells row 25 k) → W.heap[g]? = V.heap[g]?

theorem KeepsToks.refl (W : World) : KeepsToks W W := ⟨Nat.le_refl _, fun _ _ _ _ => rfl⟩
theorem KeepsToks.trans {A B C : World} (h : KeepsToks A B) (k : KeepsToks B C) : KeepsToks A C := by
  refine ⟨Nat.le_trans h.1 k.1, fun g row q hg => ?_⟩
  have h1 := h.2 g row q hg
  exact (k.2 g row q (h1.trans hg)).trans h1
theorem KeepsToks.below {A B : World} (h : Below A.heap.size A B) : KeepsToks A B := ⟨h.size, fun g _ _ hg => h.block g (Array.getElem?_eq_some_iff.1 hg).1⟩

theorem cell_of_heap {V W : World} {g : Nat} (h : W.heap[g]? = V.heap[g]?) (j : Nat) : W.cell? ⟨g, j, none⟩ = V.cell? ⟨g, j, none⟩ := by
  unfold World.cell?
  rw [show W.heap[(⟨g, j, none⟩ : Addr).block]? = V.heap[(⟨g, j, none⟩ : Addr).block]? from h]

theorem TokIn.kept {V W : World} {u : Option Addr} {l : List Tok} (h : TokIn V u l) (hk : KeepsToks V W) : TokIn W u l := by
  rcases h with h | ⟨g, off, rfl, ⟨row, k, hg⟩, ht⟩
  · exact .inl h
  · have e := hk.2 g row k hg
    refine .inr ⟨g, off, rfl, ⟨row, k, e.trans hg⟩, ?_⟩
    rcases ht with ht | ⟨g', off', hp, hg', hc⟩
    · exact .inl ht
    · cases hp
      refine .inr ⟨_, _, rfl, Nat.lt_of_lt_of_le hg' hk.1, fun i q hq => ?_⟩
      obtain ⟨h0, h1, h2, h3⟩ := hc i q hq
      exact ⟨(cell_of_heap e _).trans h0, (cell_of_heap e _).trans h1, (cell_of_heap e _).trans h2, (cell_of_heap e _).trans h3⟩
def lenOf : Value → Nat
  | .slice _ n _ => n
  | _ => 0

/-- What lies behind a statement. -/
def StIn (w : World) (x : St) : Prop := TokIn w x.u x.toks ∧ (∃ g, x.u = some ⟨g, 0, none⟩) ∧ x.toks.length ≤ x.d ∧ x.d ≤ 9223372036854775807
theorem StIn.kept {V W : World} {x : St} (h : StIn V x) (hk : KeepsToks V W) : StIn W x := ⟨h.1.kept hk, h.2⟩
theorem StIn.at {w : World} {x : St} (h : StIn w x) : TokAt w x.u x.toks := by
  obtain ⟨h, ⟨g0, e⟩, _⟩ := h
  intro i q hq
  rcases h with h | ⟨g, off, hp, hr, ht⟩
  · rw [h] at hq; cases hq
  · rw [e] at hp; cases hp
    rcases ht with h | ⟨g', off, hp, hg, hc⟩
    · rw [h] at hq; cases hq
    · rw [e] at hp; cases hp
      have := hc i q hq
      rw [Nat.zero_add] at this
      exact ⟨_, e, hg, this⟩

/-- What lies behind the statements that were handed on. -/
def Handed (l : List Tok) (xs : List St) (W : World) : Prop := xs.map St.toks = splits l ∧ ∀ x ∈ xs, StIn W x

theorem splitT_cons (f : Nat) (t : Tok) (l : List Tok) : splitT (f + 1) (t :: l) = (if semiAt (t :: l) = 0 then [] else [(t :: l).take (semiAt (t :: l))]) ++ splitT f ((t :: l).drop (min (semiAt (t :: l) + 1) (l.length + 1))) := by
  rw [splitT, if_neg (List.cons_ne_nil t l), List.length_cons]

theorem splitT_fuel : ∀ (n : Nat) (f : Nat) (l : List Tok), l.length ≤ n → l.length ≤ f → splitT f l = splitT l.length l := by
  intro n
  induction n with
  | zero =>
    intro f l h _
    have : l = [] := List.length_eq_zero_iff.1 (by omega)
    subst this
    cases f <;> rfl
  | succ n ih =>
    intro f l h hf
    cases l with
    | nil => cases f <;> rfl
    | cons t l =>
      rw [List.length_cons] at h hf
      match f with
      | f + 1 =>
        rw [List.length_cons, splitT_cons, splitT_cons]
        have hd : ((t :: l).drop (min (semiAt (t :: l) + 1) (l.length + 1))).length ≤ l.length := by
          rw [List.length_drop, List.length_cons]; omega
        rw [ih f _ (by omega) (by omega), ih l.length _ (by omega) hd]

theorem splits_step {R : List Tok} (h : R ≠ []) : splits R = (if semiAt R = 0 then [] else [R.take (semiAt R)]) ++ splits (R.drop (min (semiAt R + 1) R.length)) := by
  cases R with
  | nil => exact absurd rfl h
  | cons t l =>
    unfold splits
    have hd : ((t :: l).drop (min (semiAt (t :: l) + 1) (l.length + 1))).length ≤ l.length := by
      rw [List.length_drop, List.length_cons]; omega
    rw [List.length_cons, splitT_cons, splitT_fuel l.length l.length _ hd hd]

end Go.Proofs.YtgopajddloeclaaDoor

namespace Go.Proofs.YtgopajddloeclaaDoor

theorem kts_sk {l r : Bs} (h : sk l 0 = sk r 0) : kts l = kts r := by
  cases hr : sk r 0 with
  | none =>
    rw [hr] at h
    unfold kts
    rw [toks, toks, h, hr]
  | some q =>
    rw [hr] at h
    cases q with
    | nil => rw [kts_done h, kts_done hr]
    | cons a q =>
      cases ht : token (a :: q) with
      | none => unfold kts; rw [toks, toks, h, hr]; simp [ht]
      | some x => obtain ⟨k, t, u⟩ := x; rw [kts_step h ht, kts_step hr ht]

theorem kts_blank (b : UInt8) (r : Bs) (h : blank b = true) : kts (b :: r) = kts r := kts_sk (sk_blank' _ _ h)

theorem kts_semi (r : Bs) : kts (59 :: r) = (kts r).map ((111, [59]) :: ·) :=
  kts_step (sk_first (by decide) (fun e => by cases e.1) (fun e => by cases e.1)) (token_sign_read 59 r (by decide) (by decide) (by decide) (by decide) (by simp [dg]) (by decide))

/-- The sign that parts. -/
def sgn : UInt8 × Bs := (111, [59])
theorem kts_sign (r : Bs) : kts (10 :: 59 :: 32 :: r) = (kts r).map (sgn :: ·) := by
  rw [kts_blank 10 _ (by decide), kts_semi, kts_blank 32 _ (by decide)]; rfl

theorem splitM_two : ∀ (f g : Nat) (l : List Tok), l.length ≤ f → l.length ≤ g → splitT f l = splitT g l := by
  intro f
  induction f with
  | zero =>
    intro g l h _
    obtain rfl := List.length_eq_zero_iff.1 (Nat.le_zero.1 h)
    cases g with
    | zero => rfl
    | succ g => rw [splitT, splitT, if_pos rfl]
  | succ f ih =>
    intro g l h hg
    cases l with
    | nil =>
      cases g with
      | zero => rw [splitT, splitT, if_pos rfl]
      | succ g => rw [splitT, splitT, if_pos rfl, if_pos rfl]
    | cons t l =>
      cases g with
      | zero => simp at hg
      | succ g =>
        have e : ∀ k, splitT (k + 1) (t :: l) = (if semiAt (t :: l) = 0 then [] else [(t :: l).take (semiAt (t :: l))]) ++ splitT k ((t :: l).drop (min (semiAt (t :: l) + 1) (t :: l).length)) := fun k => by rw [splitT, if_neg (fun e => by cases e)]
        rw [e, e]
        congr 1
        rw [List.length_cons] at h hg
        exact ih g _ (by rw [List.length_drop, List.length_cons]; omega) (by rw [List.length_drop, List.length_cons]; omega)
theorem splitM_fuel (f : Nat) (l : List Tok) (h : l.length ≤ f) : splitT f l = splits l := splitM_two _ _ _ h (Nat.le_refl _)

theorem splits_semi {s : Tok} (h : semi s = true) (L : List Tok) : splits (s :: L) = splits L := by
  conv => lhs; unfold splits
  rw [List.length_cons, splitT, if_neg (by simp), semiAt_cons, if_pos h, if_pos rfl, List.nil_append]
  rw [show min (0 + 1) (s :: L).length = 1 by simp]
  exact splitM_fuel _ _ (Nat.le_refl _)

theorem semiAt_free : ∀ (A L : List Tok) (s : Tok), (∀ t ∈ A, semi t = false) → semi s = true → semiAt (A ++ s :: L) = A.length := by
  intro A
  induction A with
  | nil => intro L s _ h; rw [List.nil_append, semiAt_cons, if_pos h]; rfl
  | cons t A ih =>
    intro L s h hs
    rw [List.cons_append, semiAt_cons, if_neg (by rw [h t (List.mem_cons_self ..)]; simp), ih L s (fun x hx => h x (List.mem_cons_of_mem _ hx)) hs, List.length_cons]
    omega

theorem splits_row {A : List Tok} (h0 : A ≠ []) (hA : ∀ t ∈ A, semi t = false) {s : Tok} (hs : semi s = true) (L : List Tok) : splits (A ++ s :: L) = A :: splits L := by
  have h1 := semiAt_free A L s hA hs
  have hp : 0 < A.length := List.length_pos_iff.2 h0
  have hl : (A ++ s :: L).length = (A.length + L.length) + 1 := by simp; omega
  conv => lhs; unfold splits
  rw [hl, splitT, if_neg (by simp), h1, if_neg (by omega), List.take_left', Nat.min_eq_left (by omega)]
  · rw [show (A ++ s :: L).drop (A.length + 1) = L by rw [← List.drop_drop]; simp]
    rw [splitM_fuel _ _ (by omega)]; rfl
  · rfl

/-- The five texts, and the kinds and texts of their tokens. -/
def fiveT : List Bs := [[115, 101, 116, 32, 120, 32, 61, 32, 49], [115, 101, 108, 101, 99, 116, 32, 39, 59, 39], [98, 101, 103, 105, 110], [34, 97, 59, 98, 34, 32, 47, 42, 32, 59, 32, 42, 47], [36, 36, 59, 36, 36]]
def fiveK : List (List (UInt8 × Bs)) := [[(119, [115, 101, 116]), (119, [120]), (111, [61]), (110, [49])], [(119, [115, 101, 108, 101, 99, 116]), (115, [59])], [(119, [98, 101, 103, 105, 110])], [(113, [97, 59, 98])], [(115, [59])]]

theorem five_alone (j : Nat) (hj : j < 5) : kts (fiveT.getD j []) = some (fiveK.getD j []) := by
  match j, hj with
  | 0, _ => rfl
  | 1, _ => rfl
  | 2, _ => rfl
  | 3, _ => rfl
  | 4, _ => rfl

theorem five_then (j : Nat) (hj : j < 5) (r : Bs) : kts (fiveT.getD j [] ++ 32 :: 59 :: r) = (kts r).map (fun K => fiveK.getD j [] ++ sgn :: K) := by
  have hsem : kts (32 :: 59 :: r) = (kts r).map (sgn :: ·) := by rw [kts_blank 32 _ (by decide), kts_semi]; rfl
  match j, hj with
  | 0, _ =>
    have h0 : kts (115 :: 101 :: 116 :: 32 :: 120 :: 32 :: 61 :: 32 :: 49 :: 32 :: 59 :: r) = (kts (32 :: 120 :: 32 :: 61 :: 32 :: 49 :: 32 :: 59 :: r)).map ((119, [115, 101, 116]) :: ·) := kts_step rfl rfl
    have h1 : kts (32 :: 120 :: 32 :: 61 :: 32 :: 49 :: 32 :: 59 :: r) = (kts (32 :: 61 :: 32 :: 49 :: 32 :: 59 :: r)).map ((119, [120]) :: ·) := kts_step rfl rfl
    have h2 : kts (32 :: 61 :: 32 :: 49 :: 32 :: 59 :: r) = (kts (32 :: 49 :: 32 :: 59 :: r)).map ((111, [61]) :: ·) := kts_step rfl rfl
    have hn : token (49 :: 32 :: 59 :: r) = some (110, [49], 32 :: 59 :: r) := by
      have hl : nl (49 :: 32 :: 59 :: r) = 1 := by rw [nl_on (.inl (by decide)), nl_else (by decide), if_neg (by decide)]
      rw [token_cons, if_neg (by simp), if_neg (by decide), if_neg (by decide), if_neg (by decide), if_pos (.inl (by decide)), hl]; rfl
    have h3 : kts (32 :: 49 :: 32 :: 59 :: r) = (kts (32 :: 59 :: r)).map ((110, [49]) :: ·) := kts_step rfl hn
    refine (show _ = kts (115 :: 101 :: 116 :: 32 :: 120 :: 32 :: 61 :: 32 :: 49 :: 32 :: 59 :: r) from rfl).trans ?_
    rw [h0, h1, h2, h3, hsem]; simp only [Option.map_map]; rfl
  | 1, _ =>
    have h0 : kts (115 :: 101 :: 108 :: 101 :: 99 :: 116 :: 32 :: 39 :: 59 :: 39 :: 32 :: 59 :: r) = (kts (32 :: 39 :: 59 :: 39 :: 32 :: 59 :: r)).map ((119, [115, 101, 108, 101, 99, 116]) :: ·) := kts_step rfl rfl
    have h1 : kts (32 :: 39 :: 59 :: 39 :: 32 :: 59 :: r) = (kts (32 :: 59 :: r)).map ((115, [59]) :: ·) := kts_step rfl rfl
    refine (show _ = kts (115 :: 101 :: 108 :: 101 :: 99 :: 116 :: 32 :: 39 :: 59 :: 39 :: 32 :: 59 :: r) from rfl).trans ?_
    rw [h0, h1, hsem]; simp only [Option.map_map]; rfl
  | 2, _ =>
    have h0 : kts (98 :: 101 :: 103 :: 105 :: 110 :: 32 :: 59 :: r) = (kts (32 :: 59 :: r)).map ((119, [98, 101, 103, 105, 110]) :: ·) := kts_step rfl rfl
    refine (show _ = kts (98 :: 101 :: 103 :: 105 :: 110 :: 32 :: 59 :: r) from rfl).trans ?_
    rw [h0, hsem]; simp only [Option.map_map]; rfl
  | 3, _ =>
    have h0 : kts (34 :: 97 :: 59 :: 98 :: 34 :: 32 :: 47 :: 42 :: 32 :: 59 :: 32 :: 42 :: 47 :: 32 :: 59 :: r) = (kts (32 :: 47 :: 42 :: 32 :: 59 :: 32 :: 42 :: 47 :: 32 :: 59 :: r)).map ((113, [97, 59, 98]) :: ·) := kts_step rfl rfl
    have hc : kts (32 :: 47 :: 42 :: 32 :: 59 :: 32 :: 42 :: 47 :: 32 :: 59 :: r) = kts (32 :: 59 :: r) := kts_sk rfl
    refine (show _ = kts (34 :: 97 :: 59 :: 98 :: 34 :: 32 :: 47 :: 42 :: 32 :: 59 :: 32 :: 42 :: 47 :: 32 :: 59 :: r) from rfl).trans ?_
    rw [h0, hc, hsem]; simp only [Option.map_map]; rfl
  | 4, _ =>
    have h0 : kts (36 :: 36 :: 59 :: 36 :: 36 :: 32 :: 59 :: r) = (kts (32 :: 59 :: r)).map ((115, [59]) :: ·) := kts_step rfl rfl
    refine (show _ = kts (36 :: 36 :: 59 :: 36 :: 36 :: 32 :: 59 :: r) from rfl).trans ?_
    rw [h0, hsem]; simp only [Option.map_map]; rfl

theorem semiAt_all : ∀ (A : List Tok), (∀ t ∈ A, semi t = false) → semiAt A = A.length := by
  intro A
  induction A with
  | nil => intro _; rfl
  | cons t A ih =>
    intro h
    rw [semiAt_cons, if_neg (by rw [h t (List.mem_cons_self ..)]; simp), ih (fun x hx => h x (List.mem_cons_of_mem _ hx)), List.length_cons]
    omega
theorem splits_free {A : List Tok} (h0 : A ≠ []) (hA : ∀ t ∈ A, semi t = false) : splits A = [A] := by
  have h1 := semiAt_all A hA
  have hp : 0 < A.length := List.length_pos_iff.2 h0
  obtain ⟨k, hk⟩ : ∃ k, A.length = k + 1 := ⟨A.length - 1, by omega⟩
  unfold splits
  rw [hk, splitT, if_neg h0, h1, if_neg (by omega), List.take_length, Nat.min_eq_right (by omega), List.drop_length, splitM_fuel _ _ (Nat.zero_le _)]
  rfl

theorem semi_kt {s : Tok} (h : kt s = sgn) : semi s = true := by
  unfold semi; rw [show s.kind = 111 from congrArg Prod.fst h, show s.text = [59] from congrArg Prod.snd h]; rfl
theorem free_kt {A : List Tok} {K : List (UInt8 × Bs)} (h : A.map kt = K) (hK : sgn ∉ K) : ∀ t ∈ A, semi t = false := by
  intro t ht
  cases hs : semi t with
  | false => rfl
  | true =>
    exfalso
    unfold semi at hs
    simp only [Bool.and_eq_true, beq_iff_eq] at hs
    refine hK ?_
    rw [← h]
    exact List.mem_map.2 ⟨t, ht, by unfold kt sgn; rw [hs.1, hs.2]⟩
theorem fiveK_free (j : Nat) : sgn ∉ fiveK.getD j [] := by
  match j with
  | 0 => decide
  | 1 => decide
  | 2 => decide
  | 3 => decide
  | 4 => decide
  | n + 5 => intro h; cases h
theorem fiveK_some (j : Nat) (h : j < 5) : fiveK.getD j [] ≠ [] := by
  match j, h with
  | 0, _ => decide
  | 1, _ => decide
  | 2, _ => decide
  | 3, _ => decide
  | 4, _ => decide
theorem map_ne {A : List Tok} {K : List (UInt8 × Bs)} (h : A.map kt = K) (h0 : K ≠ []) : A ≠ [] := fun e => by subst e; exact h0 h.symm

/-- A text put together so far: its tokens ahead of whatever comes, and the statements they are. -/
def Built (S : Bs) (J : List Nat) : Prop := ∃ X, (∀ r, kts (S ++ r) = (kts r).map fun K => X ++ K) ∧
  (∀ T T' : List Tok, T.map kt = X → (splits (T ++ T')).map (List.map kt) = J.map (fun j => fiveK.getD j []) ++ (splits T').map (List.map kt)) ∧ (0 : UInt8) ∉ S

theorem built_start : Built [59] [] := by
  refine ⟨[sgn], fun r => kts_semi r, fun T T' h => ?_, by decide⟩
  obtain ⟨s, rfl, hs⟩ := List.map_eq_singleton_iff.1 h
  rw [List.cons_append, List.nil_append, splits_semi (semi_kt hs)]; rfl

theorem built_sign {S : Bs} {J : List Nat} (h : Built S J) : Built (S ++ [10, 59, 32]) J := by
  obtain ⟨X, h1, h2, h0⟩ := h
  refine ⟨X ++ [sgn], fun r => ?_, fun T T' hT => ?_, by simp [h0]⟩
  · rw [List.append_assoc, h1]
    show (kts (10 :: 59 :: 32 :: r)).map _ = _
    rw [kts_sign, Option.map_map]
    congr 1
    funext K
    simp
  · obtain ⟨T1, T2, rfl, e1, e2⟩ := List.map_eq_append_iff.1 hT
    obtain ⟨s, rfl, hs⟩ := List.map_eq_singleton_iff.1 e2
    rw [List.append_assoc, h2 _ _ e1, List.cons_append, List.nil_append, splits_semi (semi_kt hs)]

theorem built_add {S : Bs} {J : List Nat} (h : Built S J) {j : Nat} (hj : j < 5) (hz : (0 : UInt8) ∉ fiveT.getD j []) : Built (S ++ fiveT.getD j [] ++ [32, 59]) (J ++ [j]) := by
  obtain ⟨X, h1, h2, h0⟩ := h
  refine ⟨X ++ (fiveK.getD j [] ++ [sgn]), fun r => ?_, fun T T' hT => ?_, ?_⟩
  · rw [List.append_assoc, List.append_assoc, h1]
    show (kts (fiveT.getD j [] ++ 32 :: 59 :: r)).map _ = _
    rw [five_then j hj, Option.map_map]
    congr 1
    funext K
    simp
  · obtain ⟨T1, T2, rfl, e1, e2⟩ := List.map_eq_append_iff.1 hT
    obtain ⟨A, B, rfl, e3, e4⟩ := List.map_eq_append_iff.1 e2
    obtain ⟨s, rfl, hs⟩ := List.map_eq_singleton_iff.1 e4
    rw [List.append_assoc, List.append_assoc, h2 _ _ e1, List.cons_append, List.nil_append, splits_row (map_ne e3 (fiveK_some j hj)) (free_kt e3 (fiveK_free j)) (semi_kt hs), List.map_cons, e3]
    simp
  · intro h
    simp only [List.mem_append] at h
    rcases h with (h | h) | h
    · exact h0 h
    · exact hz h
    · simp at h

/-- The statements of the whole text. -/
theorem built_done {S : Bs} {J : List Nat} (h : Built S J) : ∃ T, tokens S = some T ∧ (splits T).map (List.map kt) = J.map (fun j => fiveK.getD j []) := by
  obtain ⟨X, h1, h2, h0⟩ := h
  have e := h1 []
  rw [List.append_nil, show kts [] = some [] from rfl] at e
  obtain ⟨T, hT, hm⟩ := tokens_kts h0 e
  refine ⟨T, hT, ?_⟩
  have := h2 T [] (by rw [hm]; simp)
  rw [List.append_nil] at this
  rw [this]
  simp [splits, splitT]

theorem five_zero (j : Nat) : (0 : UInt8) ∉ fiveT.getD j [] := by
  match j with
  | 0 => decide
  | 1 => decide
  | 2 => decide
  | 3 => decide
  | 4 => decide
  | n + 5 => intro h; cases h

/-- Each of the five texts alone. -/
theorem five_one (j : Nat) (hj : j < 5) : ∃ T, tokens (fiveT.getD j []) = some T ∧ splits T = [T] ∧ T.map kt = fiveK.getD j [] := by
  obtain ⟨T, hT, hm⟩ := tokens_kts (five_zero j) (five_alone j hj)
  exact ⟨T, hT, splits_free (map_ne hm (fiveK_some j hj)) (free_kt hm (fiveK_free j)), hm⟩

theorem fiveK_small (j : Nat) : (fiveK.getD j []).length ≤ 4 ∧ ∀ x ∈ fiveK.getD j [], x.2.length ≤ 6 := by
  match j with
  | 0 => decide
  | 1 => decide
  | 2 => decide
  | 3 => decide
  | 4 => decide
  | n + 5 => exact ⟨Nat.zero_le _, fun x h => by cases h⟩

theorem fieldsB_kt : ∀ (A B : List Tok), A.map kt = B.map kt → fieldsB A = fieldsB B := by
  have hf : ∀ q : Tok, fieldT q = (fun x : UInt8 × Bs => if x.1 = 113 then quoted 34 x.2 else if x.1 = 115 then quoted 39 x.2 else x.2) (kt q) := fun q => rfl
  intro A B h
  cases A with
  | nil => cases B with
    | nil => rfl
    | cons b B => cases h
  | cons a A =>
    cases B with
    | nil => cases h
    | cons b B =>
      rw [List.map_cons, List.map_cons, List.cons.injEq] at h
      have e : ∀ L : List Tok, (L.flatMap fun q => 32 :: fieldT q) = (L.map kt).flatMap fun x => 32 :: (if x.1 = 113 then quoted 34 x.2 else if x.1 = 115 then quoted 39 x.2 else x.2) := fun L => by rw [List.flatMap_map]; rfl
      rw [fieldsB, fieldsB, hf a, hf b, h.1, e A, e B, h.2]
end Go.Proofs.YtgopajddloeclaaDoor
