/- Contracts and mathematics: ManyM, OneM. -/
import Derived.Test.YtpijolcklmdjbaaDoorZ15
namespace Go.Proofs.YtpijolcklmdjbaaDoor

theorem kts_sk {l r : Bs} (h : sk l 0 = sk r 0) : kts l = kts r := by
  cases hr : sk r 0 with
  | none =>
    rw [hr] at h
    unfold kts
    rw [toks, toks, h, hr]
  | some q =>
    rw [hr] at h
    cases q with
    | nil => rw [kts_done h, kts_done hr]
    | cons a q =>
      cases ht : token (a :: q) with
      | none => unfold kts; rw [toks, toks, h, hr]; simp [ht]
      | some x => obtain ⟨k, t, u⟩ := x; rw [kts_step h ht, kts_step hr ht]

theorem kts_blank (b : UInt8) (r : Bs) (h : blank b = true) : kts (b :: r) = kts r := kts_sk (sk_blank' _ _ h)

theorem kts_semi (r : Bs) : kts (59 :: r) = (kts r).map ((111, [59]) :: ·) :=
  kts_step (sk_first (by decide) (fun e => by cases e.1) (fun e => by cases e.1)) (token_sign_read 59 r (by decide) (by decide) (by decide) (by decide) (by simp [dg]) (by decide))

/-- The sign that parts. -/
def sgn : UInt8 × Bs := (111, [59])
theorem kts_sign (r : Bs) : kts (10 :: 59 :: 32 :: r) = (kts r).map (sgn :: ·) := by
  rw [kts_blank 10 _ (by decide), kts_semi, kts_blank 32 _ (by decide)]; rfl

theorem splitM_two : ∀ (f g : Nat) (l : List Tok), l.length ≤ f → l.length ≤ g → splitT f l = splitT g l := by
  intro f
  induction f with
  | zero =>
    intro g l h _
    obtain rfl := List.length_eq_zero_iff.1 (Nat.le_zero.1 h)
    cases g with
    | zero => rfl
    | succ g => rw [splitT, splitT, if_pos rfl]
  | succ f ih =>
    intro g l h hg
    cases l with
    | nil =>
      cases g with
      | zero => rw [splitT, splitT, if_pos rfl]
      | succ g => rw [splitT, splitT, if_pos rfl, if_pos rfl]
    | cons t l =>
      cases g with
      | zero => simp at hg
      | succ g =>
        have e : ∀ k, splitT (k + 1) (t :: l) = (if semiAt (t :: l) = 0 then [] else [(t :: l).take (semiAt (t :: l))]) ++ splitT k ((t :: l).drop (min (semiAt (t :: l) + 1) (t :: l).length)) := fun k => by rw [splitT, if_neg (fun e => by cases e)]
        rw [e, e]
        congr 1
        rw [List.length_cons] at h hg
        exact ih g _ (by rw [List.length_drop, List.length_cons]; omega) (by rw [List.length_drop, List.length_cons]; omega)
theorem splitM_fuel (f : Nat) (l : List Tok) (h : l.length ≤ f) : splitT f l = splits l := splitM_two _ _ _ h (Nat.le_refl _)

theorem splits_semi {s : Tok} (h : semi s = true) (L : List Tok) : splits (s :: L) = splits L := by
  conv => lhs; unfold splits
  rw [List.length_cons, splitT, if_neg (by simp), semiAt_cons, if_pos h, if_pos rfl, List.nil_append]
  rw [show min (0 + 1) (s :: L).length = 1 by simp]
  exact splitM_fuel _ _ (Nat.le_refl _)

theorem semiAt_free : ∀ (A L : List Tok) (s : Tok), (∀ t ∈ A, semi t = false) → semi s = true → semiAt (A ++ s :: L) = A.length := by
  intro A
  induction A with
  | nil => intro L s _ h; rw [List.nil_append, semiAt_cons, if_pos h]; rfl
  | cons t A ih =>
    intro L s h hs
    rw [List.cons_append, semiAt_cons, if_neg (by rw [h t (List.mem_cons_self ..)]; simp), ih L s (fun x hx => h x (List.mem_cons_of_mem _ hx)) hs, List.length_cons]
    omega

theorem splits_row {A : List Tok} (h0 : A ≠ []) (hA : ∀ t ∈ A, semi t = false) {s : Tok} (hs : semi s = true) (L : List Tok) : splits (A ++ s :: L) = A :: splits L := by
  have h1 := semiAt_free A L s hA hs
  have hp : 0 < A.length := List.length_pos_iff.2 h0
  have hl : (A ++ s :: L).length = (A.length + L.length) + 1 := by simp; omega
  conv => lhs; unfold splits
  rw [hl, splitT, if_neg (by simp), h1, if_neg (by omega), List.take_left', Nat.min_eq_left (by omega)]
  · rw [show (A ++ s :: L).drop (A.length + 1) = L by rw [← List.drop_drop]; simp]
    rw [splitM_fuel _ _ (by omega)]; rfl
  · rfl

/-- The five texts, and the kinds and texts of their tokens. -/
def fiveT : List Bs := [[115, 101, 116, 32, 120, 32, 61, 32, 49], [115, 101, 108, 101, 99, 116, 32, 39, 59, 39], [98, 101, 103, 105, 110], [34, 97, 59, 98, 34, 32, 47, 42, 32, 59, 32, 42, 47], [36, 36, 59, 36, 36]]
def fiveK : List (List (UInt8 × Bs)) := [[(119, [115, 101, 116]), (119, [120]), (111, [61]), (110, [49])], [(119, [115, 101, 108, 101, 99, 116]), (115, [59])], [(119, [98, 101, 103, 105, 110])], [(113, [97, 59, 98])], [(115, [59])]]

theorem five_alone (j : Nat) (hj : j < 5) : kts (fiveT.getD j []) = some (fiveK.getD j []) := by
  match j, hj with
  | 0, _ => rfl
  | 1, _ => rfl
  | 2, _ => rfl
  | 3, _ => rfl
  | 4, _ => rfl

theorem five_then (j : Nat) (hj : j < 5) (r : Bs) : kts (fiveT.getD j [] ++ 32 :: 59 :: r) = (kts r).map (fun K => fiveK.getD j [] ++ sgn :: K) := by
  have hsem : kts (32 :: 59 :: r) = (kts r).map (sgn :: ·) := by rw [kts_blank 32 _ (by decide), kts_semi]; rfl
  match j, hj with
  | 0, _ =>
    have h0 : kts (115 :: 101 :: 116 :: 32 :: 120 :: 32 :: 61 :: 32 :: 49 :: 32 :: 59 :: r) = (kts (32 :: 120 :: 32 :: 61 :: 32 :: 49 :: 32 :: 59 :: r)).map ((119, [115, 101, 116]) :: ·) := kts_step rfl rfl
    have h1 : kts (32 :: 120 :: 32 :: 61 :: 32 :: 49 :: 32 :: 59 :: r) = (kts (32 :: 61 :: 32 :: 49 :: 32 :: 59 :: r)).map ((119, [120]) :: ·) := kts_step rfl rfl
    have h2 : kts (32 :: 61 :: 32 :: 49 :: 32 :: 59 :: r) = (kts (32 :: 49 :: 32 :: 59 :: r)).map ((111, [61]) :: ·) := kts_step rfl rfl
    have hn : token (49 :: 32 :: 59 :: r) = some (110, [49], 32 :: 59 :: r) := by
      have hl : nl (49 :: 32 :: 59 :: r) = 1 := by rw [nl_on (.inl (by decide)), nl_else (by decide), if_neg (by decide)]
      rw [token_cons, if_neg (by simp), if_neg (by decide), if_neg (by decide), if_neg (by decide), if_pos (.inl (by decide)), hl]; rfl
    have h3 : kts (32 :: 49 :: 32 :: 59 :: r) = (kts (32 :: 59 :: r)).map ((110, [49]) :: ·) := kts_step rfl hn
    refine (show _ = kts (115 :: 101 :: 116 :: 32 :: 120 :: 32 :: 61 :: 32 :: 49 :: 32 :: 59 :: r) from rfl).trans ?_
    rw [h0, h1, h2, h3, hsem]; simp only [Option.map_map]; rfl
  | 1, _ =>
    have h0 : kts (115 :: 101 :: 108 :: 101 :: 99 :: 116 :: 32 :: 39 :: 59 :: 39 :: 32 :: 59 :: r) = (kts (32 :: 39 :: 59 :: 39 :: 32 :: 59 :: r)).map ((119, [115, 101, 108, 101, 99, 116]) :: ·) := kts_step rfl rfl
    have h1 : kts (32 :: 39 :: 59 :: 39 :: 32 :: 59 :: r) = (kts (32 :: 59 :: r)).map ((115, [59]) :: ·) := kts_step rfl rfl
    refine (show _ = kts (115 :: 101 :: 108 :: 101 :: 99 :: 116 :: 32 :: 39 :: 59 :: 39 :: 32 :: 59 :: r) from rfl).trans ?_
    rw [h0, h1, hsem]; simp only [Option.map_map]; rfl
  | 2, _ =>
    have h0 : kts (98 :: 101 :: 103 :: 105 :: 110 :: 32 :: 59 :: r) = (kts (32 :: 59 :: r)).map ((119, [98, 101, 103, 105, 110]) :: ·) := kts_step rfl rfl
    refine (show _ = kts (98 :: 101 :: 103 :: 105 :: 110 :: 32 :: 59 :: r) from rfl).trans ?_
    rw [h0, hsem]; simp only [Option.map_map]; rfl
  | 3, _ =>
    have h0 : kts (34 :: 97 :: 59 :: 98 :: 34 :: 32 :: 47 :: 42 :: 32 :: 59 :: 32 :: 42 :: 47 :: 32 :: 59 :: r) = (kts (32 :: 47 :: 42 :: 32 :: 59 :: 32 :: 42 :: 47 :: 32 :: 59 :: r)).map ((113, [97, 59, 98]) :: ·) := kts_step rfl rfl
    have hc : kts (32 :: 47 :: 42 :: 32 :: 59 :: 32 :: 42 :: 47 :: 32 :: 59 :: r) = kts (32 :: 59 :: r) := kts_sk rfl
    refine (show _ = kts (34 :: 97 :: 59 :: 98 :: 34 :: 32 :: 47 :: 42 :: 32 :: 59 :: 32 :: 42 :: 47 :: 32 :: 59 :: r) from rfl).trans ?_
    rw [h0, hc, hsem]; simp only [Option.map_map]; rfl
  | 4, _ =>
    have h0 : kts (36 :: 36 :: 59 :: 36 :: 36 :: 32 :: 59 :: r) = (kts (32 :: 59 :: r)).map ((115, [59]) :: ·) := kts_step rfl rfl
    refine (show _ = kts (36 :: 36 :: 59 :: 36 :: 36 :: 32 :: 59 :: r) from rfl).trans ?_
    rw [h0, hsem]; simp only [Option.map_map]; rfl

theorem semiAt_all : ∀ (A : List Tok), (∀ t ∈ A, semi t = false) → semiAt A = A.length := by
  intro A
  induction A with
  | nil => intro _; rfl
  | cons t A ih =>
    intro h
    rw [semiAt_cons, if_neg (by rw [h t (List.mem_cons_self ..)]; simp), ih (fun x hx => h x (List.mem_cons_of_mem _ hx)), List.length_cons]
    omega
theorem splits_free {A : List Tok} (h0 : A ≠ []) (hA : ∀ t ∈ A, semi t = false) : splits A = [A] := by
  have h1 := semiAt_all A hA
  have hp : 0 < A.length := List.length_pos_iff.2 h0
  obtain ⟨k, hk⟩ : ∃ k, A.length = k + 1 := ⟨A.length - 1, by omega⟩
  unfold splits
  rw [hk, splitT, if_neg h0, h1, if_neg (by omega), List.take_length, Nat.min_eq_right (by omega), List.drop_length, splitM_fuel _ _ (Nat.zero_le _)]
  rfl

theorem semi_kt {s : Tok} (h : kt s = sgn) : semi s = true := by
  unfold semi; rw [show s.kind = 111 from congrArg Prod.fst h, show s.text = [59] from congrArg Prod.snd h]; rfl
theorem free_kt {A : List Tok} {K : List (UInt8 × Bs)} (h : A.map kt = K) (hK : sgn ∉ K) : ∀ t ∈ A, semi t = false := by
  intro t ht
  cases hs : semi t with
  | false => rfl
  | true =>
    exfalso
    unfold semi at hs
    simp only [Bool.and_eq_true, beq_iff_eq] at hs
    refine hK ?_
    rw [← h]
    exact List.mem_map.2 ⟨t, ht, by unfold kt sgn; rw [hs.1, hs.2]⟩
theorem fiveK_free (j : Nat) : sgn ∉ fiveK.getD j [] := by
  match j with
  | 0 => decide
  | 1 => decide
  | 2 => decide
  | 3 => decide
  | 4 => decide
  | n + 5 => intro h; cases h
theorem fiveK_some (j : Nat) (h : j < 5) : fiveK.getD j [] ≠ [] := by
  match j, h with
  | 0, _ => decide
  | 1, _ => decide
  | 2, _ => decide
  | 3, _ => decide
  | 4, _ => decide
theorem map_ne {A : List Tok} {K : List (UInt8 × Bs)} (h : A.map kt = K) (h0 : K ≠ []) : A ≠ [] := fun e => by subst e; exact h0 h.symm

/-- A text put together so far: its tokens ahead of whatever comes, and the statements they are. -/
def Built (S : Bs) (J : List Nat) : Prop := ∃ X, (∀ r, kts (S ++ r) = (kts r).map fun K => X ++ K) ∧
  (∀ T T' : List Tok, T.map kt = X → (splits (T ++ T')).map (List.map kt) = J.map (fun j => fiveK.getD j []) ++ (splits T').map (List.map kt)) ∧ (0 : UInt8) ∉ S

theorem built_start : Built [59] [] := by
  refine ⟨[sgn], fun r => kts_semi r, fun T T' h => ?_, by decide⟩
  obtain ⟨s, rfl, hs⟩ := List.map_eq_singleton_iff.1 h
  rw [List.cons_append, List.nil_append, splits_semi (semi_kt hs)]; rfl

theorem built_sign {S : Bs} {J : List Nat} (h : Built S J) : Built (S ++ [10, 59, 32]) J := by
  obtain ⟨X, h1, h2, h0⟩ := h
  refine ⟨X ++ [sgn], fun r => ?_, fun T T' hT => ?_, by simp [h0]⟩
  · rw [List.append_assoc, h1]
    show (kts (10 :: 59 :: 32 :: r)).map _ = _
    rw [kts_sign, Option.map_map]
    congr 1
    funext K
    simp
  · obtain ⟨T1, T2, rfl, e1, e2⟩ := List.map_eq_append_iff.1 hT
    obtain ⟨s, rfl, hs⟩ := List.map_eq_singleton_iff.1 e2
    rw [List.append_assoc, h2 _ _ e1, List.cons_append, List.nil_append, splits_semi (semi_kt hs)]

theorem built_add {S : Bs} {J : List Nat} (h : Built S J) {j : Nat} (hj : j < 5) (hz : (0 : UInt8) ∉ fiveT.getD j []) : Built (S ++ fiveT.getD j [] ++ [32, 59]) (J ++ [j]) := by
  obtain ⟨X, h1, h2, h0⟩ := h
  refine ⟨X ++ (fiveK.getD j [] ++ [sgn]), fun r => ?_, fun T T' hT => ?_, ?_⟩
  · rw [List.append_assoc, List.append_assoc, h1]
    show (kts (fiveT.getD j [] ++ 32 :: 59 :: r)).map _ = _
    rw [five_then j hj, Option.map_map]
    congr 1
    funext K
    simp
  · obtain ⟨T1, T2, rfl, e1, e2⟩ := List.map_eq_append_iff.1 hT
    obtain ⟨A, B, rfl, e3, e4⟩ := List.map_eq_append_iff.1 e2
    obtain ⟨s, rfl, hs⟩ := List.map_eq_singleton_iff.1 e4
    rw [List.append_assoc, List.append_assoc, h2 _ _ e1, List.cons_append, List.nil_append, splits_row (map_ne e3 (fiveK_some j hj)) (free_kt e3 (fiveK_free j)) (semi_kt hs), List.map_cons, e3]
    simp
  · intro h
    simp only [List.mem_append] at h
    rcases h with (h | h) | h
    · exact h0 h
    · exact hz h
    · simp at h

/-- The statements of the whole text. -/
theorem built_done {S : Bs} {J : List Nat} (h : Built S J) : ∃ T, tokens S = some T ∧ (splits T).map (List.map kt) = J.map (fun j => fiveK.getD j []) := by
  obtain ⟨X, h1, h2, h0⟩ := h
  have e := h1 []
  rw [List.append_nil, show kts [] = some [] from rfl] at e
  obtain ⟨T, hT, hm⟩ := tokens_kts h0 e
  refine ⟨T, hT, ?_⟩
  have := h2 T [] (by rw [hm]; simp)
  rw [List.append_nil] at this
  rw [this]
  simp [splits, splitT]

theorem five_zero (j : Nat) : (0 : UInt8) ∉ fiveT.getD j [] := by
  match j with
  | 0 => decide
  | 1 => decide
  | 2 => decide
  | 3 => decide
  | 4 => decide
  | n + 5 => intro h; cases h

/-- Each of the five texts alone. -/
theorem five_one (j : Nat) (hj : j < 5) : ∃ T, tokens (fiveT.getD j []) = some T ∧ splits T = [T] ∧ T.map kt = fiveK.getD j [] := by
  obtain ⟨T, hT, hm⟩ := tokens_kts (five_zero j) (five_alone j hj)
  exact ⟨T, hT, splits_free (map_ne hm (fiveK_some j hj)) (free_kt hm (fiveK_free j)), hm⟩

theorem fiveK_small (j : Nat) : (fiveK.getD j []).length ≤ 4 ∧ ∀ x ∈ fiveK.getD j [], x.2.length ≤ 6 := by
  match j with
  | 0 => decide
  | 1 => decide
  | 2 => decide
  | 3 => decide
  | 4 => decide
  | n + 5 => exact ⟨Nat.zero_le _, fun x h => by cases h⟩

theorem fieldsB_kt : ∀ (A B : List Tok), A.map kt = B.map kt → fieldsB A = fieldsB B := by
  have hf : ∀ q : Tok, fieldT q = (fun x : UInt8 × Bs => if x.1 = 113 then quoted 34 x.2 else if x.1 = 115 then quoted 39 x.2 else x.2) (kt q) := fun q => rfl
  intro A B h
  cases A with
  | nil => cases B with
    | nil => rfl
    | cons b B => cases h
  | cons a A =>
    cases B with
    | nil => cases h
    | cons b B =>
      rw [List.map_cons, List.map_cons, List.cons.injEq] at h
      have e : ∀ L : List Tok, (L.flatMap fun q => 32 :: fieldT q) = (L.map kt).flatMap fun x => 32 :: (if x.1 = 113 then quoted 34 x.2 else if x.1 = 115 then quoted 39 x.2 else x.2) := fun L => by rw [List.flatMap_map]; rfl
      rw [fieldsB, fieldsB, hf a, hf b, h.1, e A, e B, h.2]
end Go.Proofs.YtpijolcklmdjbaaDoor

namespace Go.Proofs.YtpijolcklmdjbaaDoor

theorem qt_text (mark : UInt8) (esc : Bool) : ∀ (n : Nat) (l t r : Bs), l.length ≤ n → qt mark esc l = some (t, r) → t.length ≤ l.length := by
  intro n
  induction n with
  | zero => intro l t r hl h; obtain rfl := List.length_eq_zero_iff.1 (Nat.le_zero.1 hl); cases h
  | succ n ih =>
    intro l t r hl h
    have mp : ∀ (q : Bs) (c : UInt8), q.length ≤ n → q.length < l.length → (qt mark esc q).map (fun p => (c :: p.1, p.2)) = some (t, r) → t.length ≤ l.length := by
      intro q c hq hql hm
      cases hr : qt mark esc q with
      | none => rw [hr] at hm; cases hm
      | some p =>
        rw [hr] at hm
        cases hm
        have := ih q p.1 p.2 hq hr
        rw [List.length_cons]; omega
    match l, hl, h, mp with
    | [], _, h, _ => cases h
    | [x], hl, h, mp =>
      rw [qt_one] at h
      split at h
      · cases h
      split at h
      · cases h; simp
      · cases h
    | x :: y :: q, hl, h, mp =>
      rw [qt_two] at h
      simp only [List.length_cons] at hl
      split at h
      · exact mp q _ (by omega) (by simp only [List.length_cons]; omega) h
      split at h
      · split at h
        · exact mp q _ (by omega) (by simp only [List.length_cons]; omega) h
        · cases h; simp
      · exact mp (y :: q) _ (by simp only [List.length_cons]; omega) (by simp only [List.length_cons]; omega) h

theorem token_small {l : Bs} {k : UInt8} {t r : Bs} (h : token l = some (k, t, r)) : t.length ≤ l.length := by
  cases l with
  | nil => cases h
  | cons b q =>
    rw [token_cons] at h
    have via : ∀ (mark : UInt8) (esc : Bool) (j : Nat) (c : UInt8), (qt mark esc (q.drop j)).map (fun p => (c, p.1, p.2)) = some (k, t, r) → t.length ≤ (b :: q).length := by
      intro mark esc j c hm
      cases hr : qt mark esc (q.drop j) with
      | none => rw [hr] at hm; cases hm
      | some p =>
        rw [hr] at hm
        cases hm
        have := qt_text mark esc _ _ p.1 p.2 (Nat.le_refl _) hr
        rw [List.length_drop] at this
        rw [List.length_cons]; omega
    split at h
    · exact via 39 true 1 115 (by rw [List.drop_one]; exact h)
    split at h
    · cases h; rw [List.length_map]; exact (List.takeWhile_prefix _).length_le
    split at h
    · cases hr : qt 34 false q with
      | none => rw [hr] at h; cases h
      | some p =>
        refine via 34 false 0 113 ?_
        rw [List.drop_zero]
        rw [hr] at h ⊢
        simp only [Option.bind_some] at h
        split at h
        · cases h
        · exact h
    split at h
    · exact via 39 false 0 115 (by rw [List.drop_zero]; exact h)
    split at h
    · cases h; rw [List.length_take]; omega
    split at h
    · rename_i tg htg
      cases hr : find tg ((b :: q).drop tg.length) with
      | none => rw [hr] at h; cases h
      | some n =>
        rw [hr] at h
        cases h
        rw [List.length_take, List.length_drop]; omega
    · cases h; simp

theorem toks_small : ∀ (f n : Nat) (l : Bs) (ts : List Tok), toks f n l = some ts → ∀ q ∈ ts, q.text.length ≤ l.length := by
  intro f
  induction f with
  | zero => intro n l ts h; cases h
  | succ f ih =>
    intro n l ts h
    rw [toks_tk] at h
    cases hs : sk l 0 with
    | none => rw [hs] at h; cases h
    | some q =>
      rw [hs] at h
      obtain ⟨j, hjd, hjl⟩ := sk_sub l q hs
      have h0 := congrArg List.length hjd
      rw [List.length_drop] at h0
      have h : tk f n q = some ts := h
      cases q with
      | nil => cases h; intro q hq; cases hq
      | cons a q =>
        rw [tk] at h
        cases ht : token (a :: q) with
        | none => rw [ht] at h; cases h
        | some p =>
          obtain ⟨k, t, r⟩ := p
          have hsm := token_small ht
          obtain ⟨e, he1, he, hel⟩ := token_sub ht
          have h1 := congrArg List.length he
          rw [List.length_drop] at h1
          rw [ht] at h
          have h : (toks f n r).map _ = some ts := h
          cases hr : toks f n r with
          | none => rw [hr] at h; cases h
          | some L' =>
            rw [hr] at h
            cases h
            intro x hx
            rcases List.mem_cons.1 hx with rfl | hx
            · show t.length ≤ _; omega
            · have := ih n r L' hr x hx; omega
theorem tokens_small {l : Bs} {ts : List Tok} (h : tokens l = some ts) : ∀ q ∈ ts, q.text.length ≤ l.length := by
  unfold tokens at h
  split at h
  · cases h
  · exact toks_small _ _ _ _ h

theorem moved_moved (a b : Nat) (t : Tok) : moved a (moved b t) = moved (b + a) t := by unfold moved; simp [Nat.add_assoc]
theorem map_moved (a b : Nat) (l : List Tok) : (l.map (moved b)).map (moved a) = l.map (moved (b + a)) := by rw [List.map_map]; congr 1; funext t; exact moved_moved a b t

/-- Signs in a row. -/
def semis : Nat → Bs
  | 0 => []
  | k + 1 => 59 :: 32 :: semis k
theorem semis_length : ∀ k, (semis k).length = 2 * k
  | 0 => rfl
  | k + 1 => by rw [semis, List.length_cons, List.length_cons, semis_length k]; omega
theorem semis_snoc : ∀ k, semis (k + 1) = semis k ++ [59, 32]
  | 0 => rfl
  | k + 1 => by
    show 59 :: 32 :: semis (k + 1) = 59 :: 32 :: (semis k ++ [59, 32])
    rw [semis_snoc k]

theorem tokens_semi (l : Bs) : tokens (59 :: 32 :: l) = (tokens l).map fun R => (⟨111, [59], 0, 1⟩ : Tok) :: R.map (moved 2) := by
  unfold tokens
  by_cases h0 : (0 : UInt8) ∈ l
  · rw [if_pos h0, if_pos (by simp [h0])]; rfl
  · rw [if_neg h0, if_neg (by simp [h0])]
    have hb : ∀ f n, toks (f + 1) n (32 :: l) = toks (f + 1) n l := fun f n => by rw [toks_tk, toks_tk, sk_blank' _ _ (by decide)]
    rw [toks_step (a := 59) (q := 32 :: l) (sk_first (by decide) (fun e => by cases e.1) (fun e => by cases e.1)) (token_sign_read 59 (32 :: l) (by decide) (by decide) (by decide) (by decide) (by simp [dg]) (by decide))]
    rw [show (59 :: 32 :: l).length = l.length + 2 from rfl, hb, toks_moved _ _ _ _ (Nat.le_refl _), toks_fuel _ (l.length + 1) l.length l (by omega) (by omega), Option.map_map]
    congr 1
    funext R
    show (⟨111, [59], _, _⟩ : Tok) :: _ = _
    congr 1
    rw [Tok.mk.injEq]
    simp only [List.length_cons]
    exact ⟨trivial, trivial, by omega, by omega⟩

theorem tokens_semis : ∀ (k : Nat), ∃ S : List Tok, (∀ q ∈ S, semi q = true) ∧ ∀ l, tokens (semis k ++ l) = (tokens l).map fun R => S ++ R.map (moved (2 * k)) := by
  intro k
  induction k with
  | zero =>
    refine ⟨[], by simp, fun l => ?_⟩
    rw [semis, List.nil_append]
    have e : (fun R : List Tok => [] ++ R.map (moved (2 * 0))) = id := by
      funext R
      have : moved (2 * 0) = id := by funext t; rfl
      rw [this]; simp
    rw [e, Option.map_id]; rfl
  | succ k ih =>
    obtain ⟨S, h1, h2⟩ := ih
    refine ⟨⟨111, [59], 0, 1⟩ :: S.map (moved 2), ?_, fun l => ?_⟩
    · intro q hq
      rcases List.mem_cons.1 hq with rfl | hq
      · rfl
      · obtain ⟨x, hx, rfl⟩ := List.mem_map.1 hq
        exact h1 x hx
    · rw [semis, List.cons_append, List.cons_append, tokens_semi, h2, Option.map_map]
      congr 1
      funext R
      show _ :: ((S ++ R.map (moved (2 * k))).map (moved 2)) = _
      rw [List.map_append, map_moved, List.cons_append, show 2 * k + 2 = 2 * (k + 1) by omega]

theorem semiAt_full : ∀ {T : List Tok}, semiAt T = T.length → ∀ t ∈ T, semi t = false := by
  intro T
  induction T with
  | nil => intro _ t h; cases h
  | cons a T ih =>
    intro h t ht
    rw [semiAt_cons, List.length_cons] at h
    split at h
    · omega
    · rename_i ha
      rcases List.mem_cons.1 ht with rfl | ht
      · simpa using ha
      · exact ih (by omega) t ht
theorem semiAt_short : ∀ {T : List Tok} (L : List Tok), semiAt T < T.length → semiAt (T ++ L) = semiAt T := by
  intro T
  induction T with
  | nil => intro L h; cases h
  | cons a T ih =>
    intro L h
    rw [semiAt_cons, List.length_cons] at h
    rw [List.cons_append, semiAt_cons, semiAt_cons]
    split at h
    · rename_i ha; rw [if_pos ha, if_pos ha]
    · rename_i ha; rw [if_neg ha, if_neg ha, ih L (by omega)]
theorem semiAt_before : ∀ (T : List Tok) (t : Tok), t ∈ T.take (semiAt T) → semi t = false := by
  intro T
  induction T with
  | nil => intro t h; simp at h
  | cons a T ih =>
    intro t h
    rw [semiAt_cons] at h
    split at h
    · cases h
    · rename_i ha
      rw [Nat.add_comm, List.take_succ_cons] at h
      rcases List.mem_cons.1 h with rfl | h
      · simpa using ha
      · exact ih t h
theorem semiAt_moved (d : Nat) : ∀ T : List Tok, semiAt (T.map (moved d)) = semiAt T := by
  intro T
  induction T with
  | nil => rfl
  | cons a T ih =>
    rw [List.map_cons, semiAt_cons, semiAt_cons, ih]; rfl

/-- The statements of two rows, a sign between. -/
theorem splits_join : ∀ (n : Nat) (T : List Tok) (s : Tok) (U : List Tok), T.length ≤ n → semi s = true → splits (T ++ s :: U) = splits T ++ splits U := by
  intro n
  induction n with
  | zero =>
    intro T s U hT hs
    obtain rfl := List.length_eq_zero_iff.1 (Nat.le_zero.1 hT)
    rw [List.nil_append, splits_semi hs]; rfl
  | succ n ih =>
    intro T s U hT hs
    by_cases h0 : T = []
    · subst h0; rw [List.nil_append, splits_semi hs]; rfl
    by_cases hf : semiAt T = T.length
    · have hA := semiAt_full hf
      rw [splits_row h0 hA hs, splits_free h0 hA]; rfl
    · have hlt : semiAt T < T.length := Nat.lt_of_le_of_ne (semiAt_le T) hf
      rw [splits_step (R := T ++ s :: U) (by simp), splits_step h0, semiAt_short _ hlt, Nat.min_eq_left (by rw [List.length_append]; omega), Nat.min_eq_left (by omega), List.take_append_of_le_length (by omega), List.drop_append_of_le_length (by omega), ih _ s U (by rw [List.length_drop]; omega) hs, List.append_assoc]

theorem splits_ahead : ∀ (S L : List Tok), (∀ q ∈ S, semi q = true) → splits (S ++ L) = splits L := by
  intro S
  induction S with
  | nil => intro L _; rfl
  | cons a S ih =>
    intro L h
    rw [List.cons_append, splits_semi (h a (List.mem_cons_self ..)), ih L (fun q hq => h q (List.mem_cons_of_mem _ hq))]
theorem splits_then (T S : List Tok) (h : ∀ q ∈ S, semi q = true) : splits (T ++ S) = splits T := by
  cases S with
  | nil => rw [List.append_nil]
  | cons a S =>
    rw [splits_join _ T a S (Nat.le_refl _) (h a (List.mem_cons_self ..))]
    have := splits_ahead S [] (fun q hq => h q (List.mem_cons_of_mem _ hq))
    rw [List.append_nil] at this
    rw [this]
    exact List.append_nil _

theorem splits_moved (d : Nat) : ∀ (n : Nat) (T : List Tok), T.length ≤ n → splits (T.map (moved d)) = (splits T).map (List.map (moved d)) := by
  intro n
  induction n with
  | zero =>
    intro T hT
    obtain rfl := List.length_eq_zero_iff.1 (Nat.le_zero.1 hT)
    rfl
  | succ n ih =>
    intro T hT
    by_cases h0 : T = []
    · subst h0; rfl
    have hp : 0 < T.length := List.length_pos_iff.2 h0
    rw [splits_step (R := T.map (moved d)) (by simpa using h0), splits_step h0, semiAt_moved, List.length_map, ← List.map_take, ← List.map_drop, ih _ (by rw [List.length_drop]; omega), List.map_append]
    split <;> rfl

/-- What a statement is made of. -/
theorem splits_mem : ∀ (n : Nat) (T : List Tok), T.length ≤ n → ∀ X ∈ splits T, X ≠ [] ∧ (∀ q ∈ X, q ∈ T ∧ semi q = false) ∧ X.length ≤ T.length := by
  intro n
  induction n with
  | zero =>
    intro T hT X hX
    obtain rfl := List.length_eq_zero_iff.1 (Nat.le_zero.1 hT)
    cases hX
  | succ n ih =>
    intro T hT X hX
    by_cases h0 : T = []
    · subst h0; cases hX
    have hp : 0 < T.length := List.length_pos_iff.2 h0
    rw [splits_step h0] at hX
    rcases List.mem_append.1 hX with hX | hX
    · split at hX
      · cases hX
      · rename_i hn
        obtain rfl := List.mem_singleton.1 hX
        refine ⟨fun e => ?_, fun q hq => ⟨List.mem_of_mem_take hq, semiAt_before T q hq⟩, by rw [List.length_take]; omega⟩
        have := congrArg List.length e
        rw [List.length_take, List.length_nil] at this
        omega
    · obtain ⟨a, b, c⟩ := ih _ (by rw [List.length_drop]; omega) X hX
      refine ⟨a, fun q hq => ⟨List.mem_of_mem_drop (b q hq).1, (b q hq).2⟩, ?_⟩
      rw [List.length_drop] at c
      omega

theorem semi_moved {d : Nat} {S : List Tok} (h : ∀ q ∈ S, semi q = true) : ∀ q ∈ S.map (moved d), semi q = true := by
  intro q hq
  obtain ⟨x, hx, rfl⟩ := List.mem_map.1 hq
  exact h x hx

/-- The one statement, with signs around it. -/
theorem one_around {s : Bs} {T X : List Tok} (k : Nat) (hT : tokens s = some T) (hX : splits T = [X]) : ∃ T', tokens (semis k ++ (s ++ 10 :: semis k)) = some T' ∧ splits T' = [X.map (moved (2 * k))] := by
  obtain ⟨S, hS, hl⟩ := tokens_semis k
  have h0 := hl []
  rw [List.append_nil, show tokens [] = some [] from rfl] at h0
  have h0 : tokens (semis k) = some S := by rw [h0]; simp
  refine ⟨_, by rw [hl, tokens_join s _ hT, h0]; rfl, ?_⟩
  rw [splits_ahead _ _ hS, List.map_append, splits_then _ _ (semi_moved (semi_moved hS)), splits_moved _ _ _ (Nat.le_refl _), hX]; rfl

/-- With another one behind it there are two. -/
theorem one_behind {s : Bs} {T X : List Tok} (hT : tokens s = some T) (hX : splits T = [X]) : ∃ T', tokens (s ++ [10, 59, 120]) = some T' ∧ (splits T').length ≠ 1 := by
  refine ⟨_, by rw [tokens_join s [59, 120] hT]; rfl, ?_⟩
  show (splits (T ++ moved (s.length + 1) ⟨111, [59], 0, 1⟩ :: [moved (s.length + 1) ⟨119, [120], 1, 2⟩])).length ≠ 1
  rw [splits_join _ T _ _ (Nat.le_refl _) rfl, hX, splits_free (by simp) (by intro t ht; rw [List.mem_singleton.1 ht]; rfl)]
  simp

theorem st_moved {d : Nat} {x y : St} (h0 : x.toks ≠ []) (h : y.toks = x.toks.map (moved d)) : y.lo = x.lo + d ∧ y.hi = x.hi + d := by
  unfold St.lo St.hi
  rw [h]
  obtain ⟨a, l, hl⟩ := List.exists_cons_of_ne_nil h0
  rw [hl]
  constructor
  · rfl
  · rw [List.getLast?_map, List.getLast?_eq_some_getLast (l := a :: l) (by simp)]
    rfl
theorem fields_moved (d : Nat) (X : List Tok) : fieldsB (X.map (moved d)) = fieldsB X := fieldsB_kt _ _ (by rw [List.map_map]; rfl)
end Go.Proofs.YtpijolcklmdjbaaDoor
