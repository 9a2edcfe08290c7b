/- Contracts and mathematics: OneM, PParseM. -/
import Derived.Test.YtgopajddloeclaaDoorZ23
import Derived.Test.YtgopajddloeclaaDoorZ12
import Derived.Test.YtgopajddloeclaaDoorZ21
namespace Go.Proofs.YtgopajddloeclaaDoor

theorem qt_text (mark : UInt8) (esc : Bool) : ∀ (n : Nat) (l t r : Bs), l.length ≤ n → qt mark esc l = some (t, r) → t.length ≤ l.length := by
  intro n
  induction n with
  | zero => intro l t r hl h; obtain rfl := List.length_eq_zero_iff.1 (Nat.le_zero.1 hl); cases h
  | succ n ih =>
    intro l t r hl h
    have mp : ∀ (q : Bs) (c : UInt8), q.length ≤ n → q.length < l.length → (qt mark esc q).map (fun p => (c :: p.1, p.2)) = some (t, r) → t.length ≤ l.length := by
      intro q c hq hql hm
      cases hr : qt mark esc q with
      | none => rw [hr] at hm; cases hm
      | some p =>
        rw [hr] at hm
        cases hm
        have := ih q p.1 p.2 hq hr
        rw [List.length_cons]; omega
    match l, hl, h, mp with
    | [], _, h, _ => cases h
    | [x], hl, h, mp =>
      rw [qt_one] at h
      split at h
      · cases h
      split at h
      · cases h; simp
      · cases h
    | x :: y :: q, hl, h, mp =>
      rw [qt_two] at h
      simp only [List.length_cons] at hl
      split at h
      · exact mp q _ (by omega) (by simp only [List.length_cons]; omega) h
      split at h
      · split at h
        · exact mp q _ (by omega) (by simp only [List.length_cons]; omega) h
        · cases h; simp
      · exact mp (y :: q) _ (by simp only [List.length_cons]; omega) (by simp only [List.length_cons]; omega) h

theorem token_small {l : Bs} {k : UInt8} {t r : Bs} (h : token l = some (k, t, r)) : t.length ≤ l.length := by
  cases l with
  | nil => cases h
  | cons b q =>
    rw [token_cons] at h
    have via : ∀ (mark : UInt8) (esc : Bool) (j : Nat) (c : UInt8), (qt mark esc (q.drop j)).map (fun p => (c, p.1, p.2)) = some (k, t, r) → t.length ≤ (b :: q).length := by
      intro mark esc j c hm
      cases hr : qt mark esc (q.drop j) with
      | none => rw [hr] at hm; cases hm
      | some p =>
        rw [hr] at hm
        cases hm
        have := qt_text mark esc _ _ p.1 p.2 (Nat.le_refl _) hr
        rw [List.length_drop] at this
        rw [List.length_cons]; omega
    split at h
    · exact via 39 true 1 115 (by rw [List.drop_one]; exact h)
    split at h
    · cases h; rw [List.length_map]; exact (List.takeWhile_prefix _).length_le
    split at h
    · cases hr : qt 34 false q with
      | none => rw [hr] at h; cases h
      | some p =>
        refine via 34 false 0 113 ?_
        rw [List.drop_zero]
        rw [hr] at h ⊢
        simp only [Option.bind_some] at h
        split at h
        · cases h
        · exact h
    split at h
    · exact via 39 false 0 115 (by rw [List.drop_zero]; exact h)
    split at h
    · cases h; rw [List.length_take]; omega
    split at h
    · rename_i tg htg
      cases hr : find tg ((b :: q).drop tg.length) with
      | none => rw [hr] at h; cases h
      | some n =>
        rw [hr] at h
        cases h
        rw [List.length_take, List.length_drop]; omega
    · cases h; simp

theorem toks_small : ∀ (f n : Nat) (l : Bs) (ts : List Tok), toks f n l = some ts → ∀ q ∈ ts, q.text.length ≤ l.length := by
  intro f
  induction f with
  | zero => intro n l ts h; cases h
  | succ f ih =>
    intro n l ts h
    rw [toks_tk] at h
    cases hs : sk l 0 with
    | none => rw [hs] at h; cases h
    | some q =>
      rw [hs] at h
      obtain ⟨j, hjd, hjl⟩ := sk_sub l q hs
      have h0 := congrArg List.length hjd
      rw [List.length_drop] at h0
      have h : tk f n q = some ts := h
      cases q with
      | nil => cases h; intro q hq; cases hq
      | cons a q =>
        rw [tk] at h
        cases ht : token (a :: q) with
        | none => rw [ht] at h; cases h
        | some p =>
          obtain ⟨k, t, r⟩ := p
          have hsm := token_small ht
          obtain ⟨e, he1, he, hel⟩ := token_sub ht
          have h1 := congrArg List.length he
          rw [List.length_drop] at h1
          rw [ht] at h
          have h : (toks f n r).map _ = some ts := h
          cases hr : toks f n r with
          | none => rw [hr] at h; cases h
          | some L' =>
            rw [hr] at h
            cases h
            intro x hx
            rcases List.mem_cons.1 hx with rfl | hx
            · show t.length ≤ _; omega
            · have := ih n r L' hr x hx; omega
theorem tokens_small {l : Bs} {ts : List Tok} (h : tokens l = some ts) : ∀ q ∈ ts, q.text.length ≤ l.length := by
  unfold tokens at h
  split at h
  · cases h
  · exact toks_small _ _ _ _ h

theorem moved_moved (a b : Nat) (t : Tok) : moved a (moved b t) = moved (b + a) t := by unfold moved; simp [Nat.add_assoc]
theorem map_moved (a b : Nat) (l : List Tok) : (l.map (moved b)).map (moved a) = l.map (moved (b + a)) := by rw [List.map_map]; congr 1; funext t; exact moved_moved a b t

/-- Signs in a row. -/
def semis : Nat → Bs
  | 0 => []
  | k + 1 => 59 :: 32 :: semis k
theorem semis_length : ∀ k, (semis k).length = 2 * k
  | 0 => rfl
  | k + 1 => by rw [semis, List.length_cons, List.length_cons, semis_length k]; omega
theorem semis_snoc : ∀ k, semis (k + 1) = semis k ++ [59, 32]
  | 0 => rfl
  | k + 1 => by
    show 59 :: 32 :: semis (k + 1) = 59 :: 32 :: (semis k ++ [59, 32])
    rw [semis_snoc k]

theorem tokens_semi (l : Bs) : tokens (59 :: 32 :: l) = (tokens l).map fun R => (⟨111, [59], 0, 1⟩ : Tok) :: R.map (moved 2) := by
  unfold tokens
  by_cases h0 : (0 : UInt8) ∈ l
  · rw [if_pos h0, if_pos (by simp [h0])]; rfl
  · rw [if_neg h0, if_neg (by simp [h0])]
    have hb : ∀ f n, toks (f + 1) n (32 :: l) = toks (f + 1) n l := fun f n => by rw [toks_tk, toks_tk, sk_blank' _ _ (by decide)]
    rw [toks_step (a := 59) (q := 32 :: l) (sk_first (by decide) (fun e => by cases e.1) (fun e => by cases e.1)) (token_sign_read 59 (32 :: l) (by decide) (by decide) (by decide) (by decide) (by simp [dg]) (by decide))]
    rw [show (59 :: 32 :: l).length = l.length + 2 from rfl, hb, toks_moved _ _ _ _ (Nat.le_refl _), toks_fuel _ (l.length + 1) l.length l (by omega) (by omega), Option.map_map]
    congr 1
    funext R
    show (⟨111, [59], _, _⟩ : Tok) :: _ = _
    congr 1
    rw [Tok.mk.injEq]
    simp only [List.length_cons]
    exact ⟨trivial, trivial, by omega, by omega⟩

theorem tokens_semis : ∀ (k : Nat), ∃ S : List Tok, (∀ q ∈ S, semi q = true) ∧ ∀ l, tokens (semis k ++ l) = (tokens l).map fun R => S ++ R.map (moved (2 * k)) := by
  intro k
  induction k with
  | zero =>
    refine ⟨[], by simp, fun l => ?_⟩
    rw [semis, List.nil_append]
    have e : (fun R : List Tok => [] ++ R.map (moved (2 * 0))) = id := by
      funext R
      have : moved (2 * 0) = id := by funext t; rfl
      rw [this]; simp
    rw [e, Option.map_id]; rfl
  | succ k ih =>
    obtain ⟨S, h1, h2⟩ := ih
    refine ⟨⟨111, [59], 0, 1⟩ :: S.map (moved 2), ?_, fun l => ?_⟩
    · intro q hq
      rcases List.mem_cons.1 hq with rfl | hq
      · rfl
      · obtain ⟨x, hx, rfl⟩ := List.mem_map.1 hq
        exact h1 x hx
    · rw [semis, List.cons_append, List.cons_append, tokens_semi, h2, Option.map_map]
      congr 1
      funext R
      show _ :: ((S ++ R.map (moved (2 * k))).map (moved 2)) = _
      rw [List.map_append, map_moved, List.cons_append, show 2 * k + 2 = 2 * (k + 1) by omega]

theorem semiAt_full : ∀ {T : List Tok}, semiAt T = T.length → ∀ t ∈ T, semi t = false := by
  intro T
  induction T with
  | nil => intro _ t h; cases h
  | cons a T ih =>
    intro h t ht
    rw [semiAt_cons, List.length_cons] at h
    split at h
    · omega
    · rename_i ha
      rcases List.mem_cons.1 ht with rfl | ht
      · simpa using ha
      · exact ih (by omega) t ht
theorem semiAt_short : ∀ {T : List Tok} (L : List Tok), semiAt T < T.length → semiAt (T ++ L) = semiAt T := by
  intro T
  induction T with
  | nil => intro L h; cases h
  | cons a T ih =>
    intro L h
    rw [semiAt_cons, List.length_cons] at h
    rw [List.cons_append, semiAt_cons, semiAt_cons]
    split at h
    · rename_i ha; rw [if_pos ha, if_pos ha]
    · rename_i ha; rw [if_neg ha, if_neg ha, ih L (by omega)]
theorem semiAt_before : ∀ (T : List Tok) (t : Tok), t ∈ T.take (semiAt T) → semi t = false := by
  intro T
  induction T with
  | nil => intro t h; simp at h
  | cons a T ih =>
    intro t h
    rw [semiAt_cons] at h
    split at h
    · cases h
    · rename_i ha
      rw [Nat.add_comm, List.take_succ_cons] at h
      rcases List.mem_cons.1 h with rfl | h
      · simpa using ha
      · exact ih t h
theorem semiAt_moved (d : Nat) : ∀ T : List Tok, semiAt (T.map (moved d)) = semiAt T := by
  intro T
  induction T with
  | nil => rfl
  | cons a T ih =>
    rw [List.map_cons, semiAt_cons, semiAt_cons, ih]; rfl

/-- The statements of two rows, a sign between. -/
theorem splits_join : ∀ (n : Nat) (T : List Tok) (s : Tok) (U : List Tok), T.length ≤ n → semi s = true → splits (T ++ s :: U) = splits T ++ splits U := by
  intro n
  induction n with
  | zero =>
    intro T s U hT hs
    obtain rfl := List.length_eq_zero_iff.1 (Nat.le_zero.1 hT)
    rw [List.nil_append, splits_semi hs]; rfl
  | succ n ih =>
    intro T s U hT hs
    by_cases h0 : T = []
    · subst h0; rw [List.nil_append, splits_semi hs]; rfl
    by_cases hf : semiAt T = T.length
    · have hA := semiAt_full hf
      rw [splits_row h0 hA hs, splits_free h0 hA]; rfl
    · have hlt : semiAt T < T.length := Nat.lt_of_le_of_ne (semiAt_le T) hf
      rw [splits_step (R := T ++ s :: U) (by simp), splits_step h0, semiAt_short _ hlt, Nat.min_eq_left (by rw [List.length_append]; omega), Nat.min_eq_left (by omega), List.take_append_of_le_length (by omega), List.drop_append_of_le_length (by omega), ih _ s U (by rw [List.length_drop]; omega) hs, List.append_assoc]

theorem splits_ahead : ∀ (S L : List Tok), (∀ q ∈ S, semi q = true) → splits (S ++ L) = splits L := by
  intro S
  induction S with
  | nil => intro L _; rfl
  | cons a S ih =>
    intro L h
    rw [List.cons_append, splits_semi (h a (List.mem_cons_self ..)), ih L (fun q hq => h q (List.mem_cons_of_mem _ hq))]
theorem splits_then (T S : List Tok) (h : ∀ q ∈ S, semi q = true) : splits (T ++ S) = splits T := by
  cases S with
  | nil => rw [List.append_nil]
  | cons a S =>
    rw [splits_join _ T a S (Nat.le_refl _) (h a (List.mem_cons_self ..))]
    have := splits_ahead S [] (fun q hq => h q (List.mem_cons_of_mem _ hq))
    rw [List.append_nil] at this
    rw [this]
    exact List.append_nil _

theorem splits_moved (d : Nat) : ∀ (n : Nat) (T : List Tok), T.length ≤ n → splits (T.map (moved d)) = (splits T).map (List.map (moved d)) := by
  intro n
  induction n with
  | zero =>
    intro T hT
    obtain rfl := List.length_eq_zero_iff.1 (Nat.le_zero.1 hT)
    rfl
  | succ n ih =>
    intro T hT
    by_cases h0 : T = []
    · subst h0; rfl
    have hp : 0 < T.length := List.length_pos_iff.2 h0
    rw [splits_step (R := T.map (moved d)) (by simpa using h0), splits_step h0, semiAt_moved, List.length_map, ← List.map_take, ← List.map_drop, ih _ (by rw [List.length_drop]; omega), List.map_append]
    split <;> rfl

/-- What a statement is made of. -/
theorem splits_mem : ∀ (n : Nat) (T : List Tok), T.length ≤ n → ∀ X ∈ splits T, X ≠ [] ∧ (∀ q ∈ X, q ∈ T ∧ semi q = false) ∧ X.length ≤ T.length := by
  intro n
  induction n with
  | zero =>
    intro T hT X hX
    obtain rfl := List.length_eq_zero_iff.1 (Nat.le_zero.1 hT)
    cases hX
  | succ n ih =>
    intro T hT X hX
    by_cases h0 : T = []
    · subst h0; cases hX
    have hp : 0 < T.length := List.length_pos_iff.2 h0
    rw [splits_step h0] at hX
    rcases List.mem_append.1 hX with hX | hX
    · split at hX
      · cases hX
      · rename_i hn
        obtain rfl := List.mem_singleton.1 hX
        refine ⟨fun e => ?_, fun q hq => ⟨List.mem_of_mem_take hq, semiAt_before T q hq⟩, by rw [List.length_take]; omega⟩
        have := congrArg List.length e
        rw [List.length_take, List.length_nil] at this
        omega
    · obtain ⟨a, b, c⟩ := ih _ (by rw [List.length_drop]; omega) X hX
      refine ⟨a, fun q hq => ⟨List.mem_of_mem_drop (b q hq).1, (b q hq).2⟩, ?_⟩
      rw [List.length_drop] at c
      omega

theorem semi_moved {d : Nat} {S : List Tok} (h : ∀ q ∈ S, semi q = true) : ∀ q ∈ S.map (moved d), semi q = true := by
  intro q hq
  obtain ⟨x, hx, rfl⟩ := List.mem_map.1 hq
  exact h x hx

/-- The one statement, with signs around it. -/
theorem one_around {s : Bs} {T X : List Tok} (k : Nat) (hT : tokens s = some T) (hX : splits T = [X]) : ∃ T', tokens (semis k ++ (s ++ 10 :: semis k)) = some T' ∧ splits T' = [X.map (moved (2 * k))] := by
  obtain ⟨S, hS, hl⟩ := tokens_semis k
  have h0 := hl []
  rw [List.append_nil, show tokens [] = some [] from rfl] at h0
  have h0 : tokens (semis k) = some S := by rw [h0]; simp
  refine ⟨_, by rw [hl, tokens_join s _ hT, h0]; rfl, ?_⟩
  rw [splits_ahead _ _ hS, List.map_append, splits_then _ _ (semi_moved (semi_moved hS)), splits_moved _ _ _ (Nat.le_refl _), hX]; rfl

/-- With another one behind it there are two. -/
theorem one_behind {s : Bs} {T X : List Tok} (hT : tokens s = some T) (hX : splits T = [X]) : ∃ T', tokens (s ++ [10, 59, 120]) = some T' ∧ (splits T').length ≠ 1 := by
  refine ⟨_, by rw [tokens_join s [59, 120] hT]; rfl, ?_⟩
  show (splits (T ++ moved (s.length + 1) ⟨111, [59], 0, 1⟩ :: [moved (s.length + 1) ⟨119, [120], 1, 2⟩])).length ≠ 1
  rw [splits_join _ T _ _ (Nat.le_refl _) rfl, hX, splits_free (by simp) (by intro t ht; rw [List.mem_singleton.1 ht]; rfl)]
  simp

theorem st_moved {d : Nat} {x y : St} (h0 : x.toks ≠ []) (h : y.toks = x.toks.map (moved d)) : y.lo = x.lo + d ∧ y.hi = x.hi + d := by
  unfold St.lo St.hi
  rw [h]
  obtain ⟨a, l, hl⟩ := List.exists_cons_of_ne_nil h0
  rw [hl]
  constructor
  · rfl
  · rw [List.getLast?_map, List.getLast?_eq_some_getLast (l := a :: l) (by simp)]
    rfl
theorem fields_moved (d : Nat) (X : List Tok) : fieldsB (X.map (moved d)) = fieldsB X := fieldsB_kt _ _ (by rw [List.map_map]; rfl)
end Go.Proofs.YtgopajddloeclaaDoor

namespace Go.Proofs.YtgopajddloeclaaDoor
open Go.RowKit Go.Lib Go.WideShapes

/-- What a text asks for, and the number of what is wrong. -/
def parsedT (T : List Tok) : Cmd := match splits T with
  | [] => ⟨48, [], []⟩
  | [x] => ofC x
  | _ :: _ :: _ => ⟨109, [], []⟩
def parsedC (s : Bs) : Cmd × Nat := if 2000 < s.length then (noCmd, 3) else match tokens s with
  | none => (noCmd, 2)
  | some T => (parsedT T, 0)

/-- A token without its places. -/
def zt (t : Tok) : Tok := ⟨t.kind, t.text, 0, 0⟩
def mk (x : UInt8 × Bs) : Tok := ⟨x.1, x.2, 0, 0⟩
theorem zt_kt (T : List Tok) : T.map zt = (T.map kt).map mk := by rw [List.map_map]; rfl
theorem z_begins (T : List Tok) (w : Bs) : beginsW (T.map zt) w = beginsW T w := by cases T <;> rfl
theorem z_alone (T : List Tok) (w : Bs) : aloneW (T.map zt) w = aloneW T w := by unfold aloneW; rw [z_begins, List.length_map]
theorem z_drop (T : List Tok) (k : Nat) : (T.map zt).drop k = (T.drop k).map zt := List.map_drop.symm
theorem z_work (T : List Tok) : workW (T.map zt) = (workW T).map zt := by
  unfold workW
  rw [z_begins, z_begins, z_drop]
  split <;> rfl
theorem z_save (T : List Tok) : saveW (T.map zt) = (saveW T).map zt := by
  unfold saveW
  rw [z_begins, z_drop, List.length_map]
  split <;> rfl
theorem z_takes (T : List Tok) : takes (T.map zt) = takes T := by
  match T with
  | [] => rfl
  | [t] => rfl
  | [t, u] => rfl
  | t :: u :: v :: r => rfl
theorem z_head (T : List Tok) : nmHead (T.map zt) = nmHead T := by cases T <;> rfl
theorem z_take (T : List Tok) : takeB (T.map zt) = takeB T := by unfold takeB; rw [z_takes, z_head]
theorem z_named (k : UInt8) (T : List Tok) : namedC k (T.map zt) = namedC k T := by unfold namedC; rw [z_take, List.length_map]
theorem z_point (k : UInt8) (T : List Tok) : pointC k (T.map zt) = pointC k T := by
  match T with
  | [] => rfl
  | [t] => rfl
  | t :: u :: r => rfl
theorem z_roll (T : List Tok) : rollC (T.map zt) = rollC T := by unfold rollC; rw [z_begins, z_drop, z_save, z_point, List.length_map]
theorem z_value (T : List Tok) : valueB (T.map zt) = valueB T := by
  match T with
  | [] => rfl
  | [t] => rfl
  | [t, u] => rfl
  | t :: u :: v :: r => rfl
theorem z_row (T : List Tok) : setRow (T.map zt) = ((setRow T).1, (setRow T).2.map zt) := by
  unfold setRow
  rw [z_begins, z_begins, z_drop, z_begins, List.length_map, List.getElem?_map, Option.map_map, show nm ∘ zt = nm from rfl]
  split
  · rfl
  · split <;> rfl
theorem z_set (T : List Tok) : setC (T.map zt) = setC T := by
  unfold setC
  rw [z_row]
  simp only [z_take, z_drop, z_alone, z_value, List.length_map, List.getElem?_map, Option.map_map]
  rfl
theorem z_command (w : Bs) (T : List Tok) : commandC w (T.map zt) = commandC w T := by
  unfold commandC
  simp only [z_set, z_alone, z_named, z_work, z_roll, z_point, z_save, List.length_map]
theorem z_of (T : List Tok) : ofC (T.map zt) = ofC T := by
  cases T with
  | nil => rfl
  | cons t r =>
    show (if t.kind == 119 then (if (commandC t.text (r.map zt)).2 then (commandC t.text (r.map zt)).1 else if barredB t.text then ⟨117, t.text, []⟩ else ⟨111, t.text, []⟩) else ⟨111, t.text, []⟩) = _
    rw [z_command]
    rfl
/-- What tokens ask for is told by their kinds and texts. -/
theorem of_kts {T : List Tok} {K : List (UInt8 × Bs)} (h : T.map kt = K) : ofC T = ofC (K.map mk) := by rw [← h, ← zt_kt, z_of]

theorem tokens_zero {l : Bs} {T : List Tok} (h : tokens l = some T) : (0 : UInt8) ∉ l := by
  intro h0
  unfold tokens at h
  rw [if_pos (by simpa using h0)] at h
  cases h

theorem parsed_tokens {s : Bs} {T : List Tok} (hs : s.length ≤ 2000) (h : tokens s = some T) : parsedC s = (parsedT T, 0) := by
  unfold parsedC
  rw [if_neg (by omega), h]
theorem parsed_none {s : Bs} (hs : s.length ≤ 2000) (h : tokens s = none) : parsedC s = (noCmd, 2) := by
  unfold parsedC
  rw [if_neg (by omega), h]
theorem parsed_free {s : Bs} {K : List (UInt8 × Bs)} (hs : s.length ≤ 2000) (h0 : (0 : UInt8) ∉ s) (h : kts s = some K) (hK : K ≠ []) (hf : sgn ∉ K) : parsedC s = (ofC (K.map mk), 0) := by
  obtain ⟨T, hT, hm⟩ := tokens_kts h0 h
  rw [parsed_tokens hs hT]
  unfold parsedT
  rw [splits_free (map_ne hm hK) (free_kt hm hf)]
  show (ofC T, 0) = _
  rw [of_kts hm]

theorem semiAt_more : ∀ (A : List Tok) (L : List Tok), (∀ t ∈ A, semi t = false) → semiAt (A ++ L) = A.length + semiAt L := by
  intro A
  induction A with
  | nil => intro L _; rw [List.nil_append, List.length_nil, Nat.zero_add]
  | cons t A ih =>
    intro L h
    rw [List.cons_append, semiAt_cons, if_neg (by rw [h t (List.mem_cons_self ..)]; simp), ih L (fun x hx => h x (List.mem_cons_of_mem _ hx)), List.length_cons]
    omega

theorem kt_semi {t : Tok} (h : kt t ≠ sgn) : semi t = false := by
  cases hs : semi t with
  | false => rfl
  | true =>
    exfalso
    unfold semi at hs
    simp only [Bool.and_eq_true, beq_iff_eq] at hs
    exact h (by unfold kt sgn; rw [hs.1, hs.2])

/-- A statement that begins so is many, or one that begins so. -/
theorem parsed_more {T : List Tok} {A B : List (UInt8 × Bs)} (hT : T.map kt = A ++ B) (hA : A ≠ []) (hf : sgn ∉ A) : parsedT T = ⟨109, [], []⟩ ∨ ∃ B', B' = B.take B'.length ∧ parsedT T = ofC ((A ++ B').map mk) ∧ (∀ u, B.head? = some u → u ≠ sgn → B' ≠ []) := by
  obtain ⟨TA, TB, rfl, eA, eB⟩ := List.map_eq_append_iff.1 hT
  have hfa := free_kt eA hf
  have hpos : 0 < TA.length := List.length_pos_iff.2 (map_ne eA hA)
  have hne : TA ++ TB ≠ [] := fun e => by have h := congrArg List.length e; rw [List.length_append, List.length_nil] at h; omega
  have hs := semiAt_more TA TB hfa
  have hst := splits_step hne
  rw [if_neg (by omega), hs] at hst
  have htk : (TA ++ TB).take (TA.length + semiAt TB) = TA ++ TB.take (semiAt TB) := by rw [List.take_length_add_append]
  rw [htk] at hst
  unfold parsedT
  cases hr : splits ((TA ++ TB).drop (min (TA.length + semiAt TB + 1) (TA ++ TB).length)) with
  | cons y ys => left; rw [hst, hr]; rfl
  | nil =>
    right
    rw [hst, hr]
    have hln : ((TB.take (semiAt TB)).map kt).length = min (semiAt TB) TB.length := by rw [List.length_map, List.length_take]
    refine ⟨(TB.take (semiAt TB)).map kt, ?_, of_kts (by rw [List.map_append, eA]), ?_⟩
    · rw [← eB, hln, ← List.map_take]
      congr 1
      rw [Nat.min_def]
      split
      · rfl
      · rw [List.take_of_length_le (by omega), List.take_of_length_le (Nat.le_refl _)]
    · intro u hu hus e
      cases TB with
      | nil => rw [← eB] at hu; cases hu
      | cons t TB =>
        rw [← eB] at hu
        cases hu
        rw [semiAt_cons, if_neg (by rw [kt_semi hus]; simp)] at e
        simp at e
end Go.Proofs.YtgopajddloeclaaDoor
