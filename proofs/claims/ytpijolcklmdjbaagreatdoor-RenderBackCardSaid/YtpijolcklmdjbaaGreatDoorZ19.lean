/- Contracts and mathematics: PWritesM. -/
import Derived.Test.YtpijolcklmdjbaaGreatDoorZ18
namespace Go.Proofs.YtpijolcklmdjbaaGreatDoor
open Go.RowKit Go.Lib Go.WideShapes

theorem sv_name' (n r : Bs) (hn : n ≠ []) (hr : r.head? ≠ some 34) : kts (32 :: (quoted 34 n ++ r)) = (kts r).map ((113, n) :: ·) := by
  rw [kts_blank 32 _ (by decide)]
  have e : quoted 34 n ++ r = 34 :: (doubled 34 n ++ 34 :: r) := by unfold quoted; simp
  rw [e]
  exact kts_step (sk_first (by decide) (fun e => by cases e.1) (fun e => by cases e.1)) (token_name_read n r hn hr)
/-- A name in full. -/
def fullB (l : Bs) : Bs := if (46 : UInt8) ∈ l then identB (Lib.cut l [46]).1 ++ 46 :: identB (Lib.cut l [46]).2.1 else identB l
def identK (s : Bs) : UInt8 := if partB s && !takenB s then 119 else 113

theorem ident_kts (s rest : Bs) (h0 : s ≠ []) (hr : Ends rest) : kts (identB s ++ rest) = (kts rest).map ((identK s, s) :: ·) := by
  unfold identB identK
  cases hp : partB s && !takenB s with
  | true =>
    have hp : partB s = true := by cases h : partB s with
      | true => rfl
      | false => rw [h] at hp; cases hp
    rw [if_pos rfl, if_pos rfl]
    cases s with
    | nil => exact absurd rfl h0
    | cons b r =>
      have hb : lowB b = true := by
        cases h : lowB b with
        | true => rfl
        | false => rw [partB, h] at hp; cases hp
      obtain ⟨g1, _, _, g4, _, g6, g7, _, _⟩ := lowB_facts hb
      have hq : r.head? ≠ some 39 := by
        cases r with
        | nil => simp
        | cons x r =>
          intro e
          have e : x = 39 := by simpa using e
          exact (part_facts hp x (by simp)).2.2.1 e
      exact kts_step (l := b :: (r ++ rest)) (sk_first g4 (fun e => g6 e.1) (fun e => g7 e.1)) (token_word_read b r rest g1 (fun c hc => ⟨(part_facts hp c hc).1, (part_facts hp c hc).2.1⟩) hq hr.1 hr.2.2)
  | false =>
    rw [if_neg (by decide), if_neg (by decide)]
    have e : quoted 34 s ++ rest = 34 :: (doubled 34 s ++ 34 :: rest) := by unfold quoted; simp
    rw [e]
    exact kts_step (sk_first (by decide) (fun e => by cases e.1) (fun e => by cases e.1)) (token_name_read s rest h0 hr.2.1)
theorem identK_cases (s : Bs) : identK s = 113 ∨ (identK s = 119 ∧ takenB s = false) := by
  unfold identK
  cases hp : partB s && !takenB s with
  | true =>
    refine .inr ⟨rfl, ?_⟩
    cases h : takenB s with
    | false => rfl
    | true => rw [h] at hp; simp at hp
  | false => exact .inl rfl

/-- The tokens of a name in full. -/
structure NameK (name : Bs) (K : List (UInt8 × Bs)) : Prop where
  head : ∃ a R, K = (identK a, a) :: R
  free : sgn ∉ K
  read : ∀ rest, Ends rest → kts (fullB name ++ rest) = (kts rest).map (K ++ ·)
  take : ∀ R : List (UInt8 × Bs), R.head? ≠ some (111, [46]) → takeB ((K ++ R).map mk) = (name, K.length)

theorem taken_not (a : Bs) (R : List Tok) (w : Bs) (hw : w ∈ takenL) : beginsW (mk (identK a, a) :: R) w = false := by
  show (identK a == 119 && a == w) = false
  rcases identK_cases a with h | ⟨h, ht⟩
  · rw [h]; rfl
  · rw [h]
    cases hh : a == w with
    | false => rfl
    | true =>
      exfalso
      have : takenB a = true := by
        unfold takenB
        rw [List.any_eq_true]
        exact ⟨w, hw, hh⟩
      rw [ht] at this; cases this
theorem nm_ident (a b : Bs) : nm (mk (identK a, b)) = true := by
  unfold nm mk
  rcases identK_cases a with h | ⟨h, _⟩ <;> rw [h] <;> rfl
theorem ident_free (a : Bs) : ((identK a, a) : UInt8 × Bs) ≠ sgn := by
  intro h
  have h := congrArg Prod.fst h
  rcases identK_cases a with e | ⟨e, _⟩ <;> rw [show (identK a, a).1 = identK a from rfl, e] at h <;> cases h

theorem name_one {a : Bs} (ha : goodB a = true) (hd : (46 : UInt8) ∉ a) : NameK a [(identK a, a)] := by
  have h0 := good_some' ha
  have hf : fullB a = identB a := by unfold fullB; rw [if_neg hd]
  refine ⟨⟨a, [], rfl⟩, fun h => ident_free a (List.mem_singleton.1 h).symm, fun rest hr => ?_, fun R hR => ?_⟩
  · rw [hf, ident_kts a rest h0 hr]; rfl
  · have hx : takes (([(identK a, a)] ++ R).map mk) = (a, 1) := by
      match R, hR with
      | [], _ => show (foldB a, 1) = _; rw [good_low ha]
      | [x], _ => show (foldB a, 1) = _; rw [good_low ha]
      | x :: y :: r, hR =>
        show takes (mk (identK a, a) :: mk x :: mk y :: r.map mk) = _
        have hh : ((mk x).kind == 111) = false ∨ ((mk x).text == [46]) = false ∨ nm (mk y) = false := by
          cases h1 : (mk x).kind == 111 with
          | false => exact .inl rfl
          | true =>
            cases h2 : (mk x).text == [46] with
            | false => exact .inr (.inl rfl)
            | true =>
              exfalso
              apply hR
              rw [beq_iff_eq] at h1 h2
              show some x = _
              rw [show x = (111, [46]) from Prod.ext h1 h2]
        rw [takes_short1 hh]
        show (foldB a, 1) = _
        rw [good_low ha]
    rw [show takeB (([(identK a, a)] ++ R).map mk) = _ from takeB_yes (t := mk (identK a, a)) (r := R.map mk) (nm_ident a a) hx, ha]; rfl

theorem name_two {a b : Bs} (hg : goodB (a ++ 46 :: b) = true) (ha : partB a = true) (hb : partB b = true) : NameK (a ++ 46 :: b) [(identK a, a), (111, [46]), (identK b, b)] := by
  have hd := partB_nodot ha
  have a0 : a ≠ [] := fun e => by rw [e] at ha; cases ha
  have b0 : b ≠ [] := fun e => by rw [e] at hb; cases hb
  have hf : fullB (a ++ 46 :: b) = identB a ++ 46 :: identB b := by unfold fullB; rw [if_pos (by simp), cut_at hd]
  refine ⟨⟨a, _, rfl⟩, fun h => ?_, fun rest hr => ?_, fun R _ => ?_⟩
  · simp only [List.mem_cons, List.not_mem_nil, or_false] at h
    rcases h with h | h | h
    · exact ident_free a h.symm
    · cases h
    · exact ident_free b h.symm
  · rw [hf, List.append_assoc, List.cons_append, ident_kts a _ a0 ⟨by simp, by simp, fun c hc => by cases hc; rfl⟩]
    have h46 : kts (46 :: (identB b ++ rest)) = (kts (identB b ++ rest)).map ((111, [46]) :: ·) := by
      refine kts_step (sk_first (by decide) (fun e => by cases e.1) (fun e => by cases e.1)) (token_sign_read 46 _ (by decide) (by decide) (by decide) (by decide) ?_ (by decide))
      intro e
      rcases e with e | e
      · cases e
      · have e := e.2
        cases b with
        | nil => exact b0 rfl
        | cons c r =>
          have hc : lowB c = true := by
            cases h : lowB c with
            | true => rfl
            | false => rw [partB, h] at hb; cases hb
          unfold identB at e
          split at e
          · have : dg c = true := e
            have h2 := (dg_facts this).1
            rw [(lowB_facts hc).1] at h2; cases h2
          · cases e
    rw [h46, ident_kts b rest b0 hr, Option.map_map, Option.map_map]; rfl
  · exact take_both (L := ([(identK a, a), (111, [46]), (identK b, b)] ++ R).map mk) (K := R) (k := identK a) (k' := identK b) (by rcases identK_cases a with h | ⟨h, _⟩; exact .inr h; exact .inl h) (by rcases identK_cases b with h | ⟨h, _⟩; exact .inr h; exact .inl h) ha hb hg (by rw [List.map_map, show kt ∘ mk = id from rfl, List.map_id]; rfl)

theorem good_cases {l : Bs} (h : goodB l = true) : (46 : UInt8) ∉ l ∨ ∃ a b, l = a ++ 46 :: b ∧ partB a = true ∧ partB b = true := by
  by_cases hd : (46 : UInt8) ∈ l
  · obtain ⟨a, b, rfl, hn⟩ := cut_back hd
    rw [goodB_two hn] at h
    simp only [Bool.and_eq_true] at h
    exact .inr ⟨a, b, rfl, h.2.1, h.2.2⟩
  · exact .inl hd
theorem name_k {l : Bs} (h : goodB l = true) : ∃ K, NameK l K := by
  rcases good_cases h with hd | ⟨a, b, rfl, ha, hb⟩
  · exact ⟨_, name_one h hd⟩
  · exact ⟨_, name_two h ha hb⟩

/-- What a setting asks for. -/
theorem set_gen {T A : List Tok} {kind : UInt8} {s : UInt8 × Bs} {name v : Bs} (hrow : setRow T = (kind, A ++ [mk s, mk (115, v)])) (htk : takeB (A ++ [mk s, mk (115, v)]) = (name, A.length)) (h0 : A.length ≠ 0) (hs : assignsB (mk s) = true) : setC T = (⟨kind, name, v⟩, true) := by
  unfold setC
  rw [hrow]
  simp only [htk]
  rw [if_neg, if_neg]
  · rw [show (A ++ [mk s, mk (115, v)]).drop (A.length + 1) = [mk (115, v)] by rw [← List.drop_drop]; simp]
    rfl
  · rw [show (A ++ [mk s, mk (115, v)]).drop (A.length + 1) = [mk (115, v)] by rw [← List.drop_drop]; simp]
    simp [aloneW, beginsW, mk]
  · rintro (h | h | h)
    · exact h0 h
    · simp at h
    · rw [List.getElem?_append_right (Nat.le_refl _), Nat.sub_self] at h
      simp [hs] at h

theorem k_len {name : Bs} {K : List (UInt8 × Bs)} (h : NameK name K) : (K.map mk).length ≠ 0 := by
  obtain ⟨a, R, rfl, _⟩ := h.head
  simp
theorem k_begins {name : Bs} {K : List (UInt8 × Bs)} (h : NameK name K) (R : List Tok) (w : Bs) (hw : w ∈ takenL) : beginsW (K.map mk ++ R) w = false := by
  obtain ⟨a, S, rfl⟩ := h.head
  exact taken_not a _ w hw
theorem k_nm {name : Bs} {K : List (UInt8 × Bs)} (h : NameK name K) (R : List Tok) : ((K.map mk ++ R)[0]?.map nm) = some true := by
  obtain ⟨a, S, rfl⟩ := h.head
  show some (nm (mk (identK a, a))) = _
  rw [nm_ident]
theorem k_take {name : Bs} {K : List (UInt8 × Bs)} (h : NameK name K) (R : List (UInt8 × Bs)) (hR : R.head? ≠ some (111, [46])) : takeB (K.map mk ++ R.map mk) = (name, (K.map mk).length) := by
  rw [← List.map_append, h.take R hR, List.length_map]

theorem w_set1 {name : Bs} {K : List (UInt8 × Bs)} (h : NameK name K) (s : UInt8 × Bs) (v : Bs) (hs : assignsB (mk s) = true) (hd : s ≠ (111, [46])) : setC (K.map mk ++ [mk s, mk (115, v)]) = (⟨115, name, v⟩, true) := by
  refine set_gen ?_ (k_take h [s, (115, v)] (fun e => hd (Option.some.inj e))) (k_len h) hs
  unfold setRow
  rw [k_begins h _ _ (by decide), k_begins h _ _ (by decide)]; rfl
theorem w_setl {name : Bs} {K : List (UInt8 × Bs)} (h : NameK name K) (s : UInt8 × Bs) (v : Bs) (hs : assignsB (mk s) = true) (hd : s ≠ (111, [46])) : setC (mk (119, w_local) :: (K.map mk ++ [mk s, mk (115, v)])) = (⟨108, name, v⟩, true) := by
  refine set_gen ?_ (k_take h [s, (115, v)] (fun e => hd (Option.some.inj e))) (k_len h) hs
  unfold setRow
  rw [show beginsW (mk (119, w_local) :: (K.map mk ++ [mk s, mk (115, v)])) w_local = true from rfl, if_pos rfl]; rfl
theorem w_sets {name : Bs} {K : List (UInt8 × Bs)} (h : NameK name K) (s : UInt8 × Bs) (v : Bs) (hs : assignsB (mk s) = true) (hd : s ≠ (111, [46])) : setC (mk (119, w_session) :: (K.map mk ++ [mk s, mk (115, v)])) = (⟨115, name, v⟩, true) := by
  refine set_gen ?_ (k_take h [s, (115, v)] (fun e => hd (Option.some.inj e))) (k_len h) hs
  unfold setRow
  rw [if_neg (by rw [show beginsW (mk (119, w_session) :: (K.map mk ++ [mk s, mk (115, v)])) w_local = false from rfl]; simp), if_pos]
  · rfl
  · rw [show (mk (119, w_session) :: (K.map mk ++ [mk s, mk (115, v)]))[1]? = (K.map mk ++ [mk s, mk (115, v)])[0]? from rfl, k_nm h, List.drop_one, List.tail_cons, k_begins h _ _ (by decide)]
    have hl : decide (1 < (mk (119, w_session) :: (K.map mk ++ [mk s, mk (115, v)])).length) = true := by simp
    rw [hl]; rfl
theorem w_named {name : Bs} {K : List (UInt8 × Bs)} (h : NameK name K) (k : UInt8) : namedC k (K.map mk) = (⟨k, name, []⟩, true) := by
  have ht := k_take h [] (by simp)
  rw [List.map_nil, List.append_nil] at ht
  unfold namedC
  rw [ht]
  have := k_len h
  have hp : decide (0 < (K.map mk).length) = true := by simp only [decide_eq_true_eq]; omega
  simp only [hp, beq_self_eq_true, Bool.and_self]
theorem w_alone {name : Bs} {K : List (UInt8 × Bs)} (h : NameK name K) : aloneW (K.map mk) w_all = false := by
  unfold aloneW
  have := k_begins h [] w_all (by decide)
  rw [List.append_nil] at this
  rw [this, Bool.and_false]

/-- The nine texts, and what they ask for. -/
def wrT (name v : Bs) : Nat → Bs
  | 0 => [115, 101, 116, 32] ++ (fullB name ++ (32 :: 116 :: 111 :: 32 :: quoted 39 v))
  | 1 => [83, 69, 84, 32, 76, 79, 67, 65, 76, 32] ++ (fullB name ++ (61 :: quoted 39 v))
  | 2 => [115, 101, 116, 32, 34, 120, 34, 46, 34, 121, 34, 32, 116, 111, 32, 100, 101, 102, 97, 117, 108, 116]
  | 3 => [114, 101, 115, 101, 116, 32] ++ fullB name
  | 4 => [115, 104, 111, 119, 32] ++ fullB name
  | 5 => [115, 97, 118, 101, 112, 111, 105, 110, 116, 32] ++ quoted 34 name
  | 6 => [114, 111, 108, 108, 98, 97, 99, 107, 32, 119, 111, 114, 107, 32, 116, 111, 32, 115, 97, 118, 101, 112, 111, 105, 110, 116, 32] ++ quoted 34 name
  | 7 => [114, 101, 108, 101, 97, 115, 101, 32] ++ quoted 34 name
  | _ => [115, 101, 116, 32, 115, 101, 115, 115, 105, 111, 110, 32] ++ (fullB name ++ (32 :: 61 :: 32 :: quoted 39 v))
def wrC (name v : Bs) : Nat → Cmd
  | 0 => ⟨115, name, v⟩
  | 1 => ⟨108, name, v⟩
  | 2 => ⟨114, [120, 46, 121], []⟩
  | 3 => ⟨114, name, []⟩
  | 4 => ⟨119, name, []⟩
  | 5 => ⟨112, name, []⟩
  | 6 => ⟨116, name, []⟩
  | 7 => ⟨101, name, []⟩
  | _ => ⟨115, name, v⟩
def wrK (K : List (UInt8 × Bs)) (name v : Bs) : Nat → List (UInt8 × Bs)
  | 0 => (119, w_set) :: (K ++ [(119, w_to), (115, v)])
  | 1 => (119, w_set) :: (119, w_local) :: (K ++ [(111, [61]), (115, v)])
  | 3 => (119, w_reset) :: K
  | 4 => (119, w_show) :: K
  | 5 => [(119, w_savepoint), (113, name)]
  | 6 => [(119, w_rollback), (119, w_work), (119, w_to), (119, w_savepoint), (113, name)]
  | 7 => [(119, w_release), (113, name)]
  | _ => (119, w_set) :: (119, w_session) :: (K ++ [(111, [61]), (115, v)])

theorem wr_of {name : Bs} {K : List (UInt8 × Bs)} (h : NameK name K) (v : Bs) (j : Nat) (hj : j < 9) (h2 : j ≠ 2) : ofC ((wrK K name v j).map mk) = wrC name v j := by
  have hof : ∀ (w : Bs) (R : List Tok) (c : Cmd), commandC w R = (c, true) → ofC (mk (119, w) :: R) = c := fun w R c e => by
    show (if (119 : UInt8) == 119 then (if (commandC w R).2 then (commandC w R).1 else if barredB w then ⟨117, w, []⟩ else ⟨111, w, []⟩) else ⟨111, w, []⟩) = _
    rw [e]; rfl
  match j, hj, h2 with
  | 0, _, _ => exact hof w_set _ _ (by rw [List.map_append]; exact w_set1 h (119, w_to) v rfl (fun e => by cases e))
  | 1, _, _ => exact hof w_set _ _ (by rw [List.map_cons, List.map_append]; exact w_setl h (111, [61]) v rfl (fun e => by cases e))
  | 3, _, _ => exact hof w_reset _ _ (by show (if aloneW (K.map mk) w_all then _ else namedC 114 (K.map mk)) = _; rw [w_alone h, if_neg (by simp), w_named h]; rfl)
  | 4, _, _ => exact hof w_show _ _ (w_named h 119)
  | 5, _, _ => rfl
  | 6, _, _ => rfl
  | 7, _, _ => rfl
  | 8, _, _ => exact hof w_set _ _ (by rw [List.map_cons, List.map_append]; exact w_sets h (111, [61]) v rfl (fun e => by cases e))

theorem wr_kts {name : Bs} {K : List (UInt8 × Bs)} (h : NameK name K) (h0 : name ≠ []) (v : Bs) (j : Nat) (hj : j < 9) (h2 : j ≠ 2) : kts (wrT name v j) = some (wrK K name v j) := by
  have hb : ∀ r, kts (32 :: r) = kts r := fun r => kts_blank 32 r (by decide)
  have hl : kts (quoted 39 v) = some [(115, v)] := by rw [show quoted 39 v = quoted 39 v ++ [] by rw [List.append_nil], v_text v [] (by simp)]; rfl
  have hq : kts (quoted 34 name) = some [(113, name)] := by rw [← hb, show (32 : UInt8) :: quoted 34 name = 32 :: (quoted 34 name ++ []) by rw [List.append_nil], sv_name' name [] h0 (by simp)]; rfl
  have hn : kts (fullB name) = some K := by have := h.read [] ⟨by simp, by simp, fun c hc => by cases hc⟩; rw [List.append_nil] at this; rw [this]; show some (K ++ []) = _; rw [List.append_nil]
  have hset : ∀ r, kts ([115, 101, 116, 32] ++ r) = (kts r).map ((119, w_set) :: ·) := fun r => ((show kts (115 :: 101 :: 116 :: 32 :: r) = (kts (32 :: r)).map ((119, w_set) :: ·) from kts_step rfl rfl).trans (by rw [hb]))
  have heq : ∀ r, kts (61 :: r) = (kts r).map ((111, [61]) :: ·) := fun r => kts_step (sk_first (by decide) (fun e => by cases e.1) (fun e => by cases e.1)) (token_sign_read 61 r (by decide) (by decide) (by decide) (by decide) (by simp [dg]) (by decide))
  have hto : ∀ r, kts (116 :: 111 :: 32 :: r) = (kts r).map ((119, w_to) :: ·) := fun r => (show kts (116 :: 111 :: 32 :: r) = (kts (32 :: r)).map ((119, w_to) :: ·) from kts_step rfl rfl).trans (by rw [hb])
  match j, hj, h2 with
  | 0, _, _ =>
    show kts ([115, 101, 116, 32] ++ (fullB name ++ (32 :: 116 :: 111 :: 32 :: quoted 39 v))) = _
    rw [hset, h.read _ ⟨by simp, by simp, fun c hc => by cases hc; rfl⟩, hb, hto, hl]; rfl
  | 1, _, _ =>
    show kts ([83, 69, 84, 32, 76, 79, 67, 65, 76, 32] ++ (fullB name ++ (61 :: quoted 39 v))) = _
    rw [show ∀ r, kts ([83, 69, 84, 32, 76, 79, 67, 65, 76, 32] ++ r) = (kts r).map (fun K => (119, w_set) :: (119, w_local) :: K) from fun r => by
      show kts (83 :: 69 :: 84 :: 32 :: 76 :: 79 :: 67 :: 65 :: 76 :: 32 :: r) = _
      rw [show kts (83 :: 69 :: 84 :: 32 :: 76 :: 79 :: 67 :: 65 :: 76 :: 32 :: r) = (kts (32 :: 76 :: 79 :: 67 :: 65 :: 76 :: 32 :: r)).map ((119, w_set) :: ·) from kts_step rfl rfl, show kts (32 :: 76 :: 79 :: 67 :: 65 :: 76 :: 32 :: r) = (kts (32 :: r)).map ((119, w_local) :: ·) from kts_step rfl rfl, hb, Option.map_map]; rfl,
      h.read _ ⟨by simp, by simp, fun c hc => by cases hc; rfl⟩, heq, hl]; rfl
  | 3, _, _ =>
    show kts ([114, 101, 115, 101, 116, 32] ++ fullB name) = _
    rw [show ∀ r, kts ([114, 101, 115, 101, 116, 32] ++ r) = (kts r).map ((119, w_reset) :: ·) from fun r => ((show kts (114 :: 101 :: 115 :: 101 :: 116 :: 32 :: r) = (kts (32 :: r)).map ((119, w_reset) :: ·) from kts_step rfl rfl).trans (by rw [hb])), hn]; rfl
  | 4, _, _ =>
    show kts ([115, 104, 111, 119, 32] ++ fullB name) = _
    rw [show ∀ r, kts ([115, 104, 111, 119, 32] ++ r) = (kts r).map ((119, w_show) :: ·) from fun r => ((show kts (115 :: 104 :: 111 :: 119 :: 32 :: r) = (kts (32 :: r)).map ((119, w_show) :: ·) from kts_step rfl rfl).trans (by rw [hb])), hn]; rfl
  | 5, _, _ =>
    show kts ([115, 97, 118, 101, 112, 111, 105, 110, 116, 32] ++ quoted 34 name) = _
    rw [show ∀ r, kts ([115, 97, 118, 101, 112, 111, 105, 110, 116, 32] ++ r) = (kts r).map ((119, w_savepoint) :: ·) from fun r => ((show kts (115 :: 97 :: 118 :: 101 :: 112 :: 111 :: 105 :: 110 :: 116 :: 32 :: r) = (kts (32 :: r)).map ((119, w_savepoint) :: ·) from kts_step rfl rfl).trans (by rw [hb])), hq]; rfl
  | 6, _, _ =>
    show kts ([114, 111, 108, 108, 98, 97, 99, 107, 32, 119, 111, 114, 107, 32, 116, 111, 32, 115, 97, 118, 101, 112, 111, 105, 110, 116, 32] ++ quoted 34 name) = _
    rw [show ∀ r, kts ([114, 111, 108, 108, 98, 97, 99, 107, 32, 119, 111, 114, 107, 32, 116, 111, 32, 115, 97, 118, 101, 112, 111, 105, 110, 116, 32] ++ r) = (kts r).map (fun K => (119, w_rollback) :: (119, w_work) :: (119, w_to) :: (119, w_savepoint) :: K) from fun r => by
      show kts (114 :: 111 :: 108 :: 108 :: 98 :: 97 :: 99 :: 107 :: 32 :: 119 :: 111 :: 114 :: 107 :: 32 :: 116 :: 111 :: 32 :: 115 :: 97 :: 118 :: 101 :: 112 :: 111 :: 105 :: 110 :: 116 :: 32 :: r) = _
      rw [show kts (114 :: 111 :: 108 :: 108 :: 98 :: 97 :: 99 :: 107 :: 32 :: 119 :: 111 :: 114 :: 107 :: 32 :: 116 :: 111 :: 32 :: 115 :: 97 :: 118 :: 101 :: 112 :: 111 :: 105 :: 110 :: 116 :: 32 :: r) = (kts (32 :: 119 :: 111 :: 114 :: 107 :: 32 :: 116 :: 111 :: 32 :: 115 :: 97 :: 118 :: 101 :: 112 :: 111 :: 105 :: 110 :: 116 :: 32 :: r)).map ((119, w_rollback) :: ·) from kts_step rfl rfl,
        show kts (32 :: 119 :: 111 :: 114 :: 107 :: 32 :: 116 :: 111 :: 32 :: 115 :: 97 :: 118 :: 101 :: 112 :: 111 :: 105 :: 110 :: 116 :: 32 :: r) = (kts (32 :: 116 :: 111 :: 32 :: 115 :: 97 :: 118 :: 101 :: 112 :: 111 :: 105 :: 110 :: 116 :: 32 :: r)).map ((119, w_work) :: ·) from kts_step rfl rfl,
        show kts (32 :: 116 :: 111 :: 32 :: 115 :: 97 :: 118 :: 101 :: 112 :: 111 :: 105 :: 110 :: 116 :: 32 :: r) = (kts (32 :: 115 :: 97 :: 118 :: 101 :: 112 :: 111 :: 105 :: 110 :: 116 :: 32 :: r)).map ((119, w_to) :: ·) from kts_step rfl rfl,
        show kts (32 :: 115 :: 97 :: 118 :: 101 :: 112 :: 111 :: 105 :: 110 :: 116 :: 32 :: r) = (kts (32 :: r)).map ((119, w_savepoint) :: ·) from kts_step rfl rfl, hb, Option.map_map, Option.map_map, Option.map_map]; rfl, hq]; rfl
  | 7, _, _ =>
    show kts ([114, 101, 108, 101, 97, 115, 101, 32] ++ quoted 34 name) = _
    rw [show ∀ r, kts ([114, 101, 108, 101, 97, 115, 101, 32] ++ r) = (kts r).map ((119, w_release) :: ·) from fun r => ((show kts (114 :: 101 :: 108 :: 101 :: 97 :: 115 :: 101 :: 32 :: r) = (kts (32 :: r)).map ((119, w_release) :: ·) from kts_step rfl rfl).trans (by rw [hb])), hq]; rfl
  | 8, _, _ =>
    show kts ([115, 101, 116, 32, 115, 101, 115, 115, 105, 111, 110, 32] ++ (fullB name ++ (32 :: 61 :: 32 :: quoted 39 v))) = _
    rw [show ∀ r, kts ([115, 101, 116, 32, 115, 101, 115, 115, 105, 111, 110, 32] ++ r) = (kts r).map (fun K => (119, w_set) :: (119, w_session) :: K) from fun r => by
      show kts (115 :: 101 :: 116 :: 32 :: 115 :: 101 :: 115 :: 115 :: 105 :: 111 :: 110 :: 32 :: r) = _
      rw [show kts (115 :: 101 :: 116 :: 32 :: 115 :: 101 :: 115 :: 115 :: 105 :: 111 :: 110 :: 32 :: r) = (kts (32 :: 115 :: 101 :: 115 :: 115 :: 105 :: 111 :: 110 :: 32 :: r)).map ((119, w_set) :: ·) from kts_step rfl rfl, show kts (32 :: 115 :: 101 :: 115 :: 115 :: 105 :: 111 :: 110 :: 32 :: r) = (kts (32 :: r)).map ((119, w_session) :: ·) from kts_step rfl rfl, hb, Option.map_map]; rfl,
      h.read _ ⟨by simp, by simp, fun c hc => by cases hc; rfl⟩, hb, heq, hb, hl]; rfl

theorem wr_free {name : Bs} {K : List (UInt8 × Bs)} (h : NameK name K) (v : Bs) (j : Nat) : sgn ∉ wrK K name v j := by
  have hf := h.free
  match j with
  | 0 => simp [wrK, sgn] at hf ⊢; exact hf
  | 1 => simp [wrK, sgn] at hf ⊢; exact hf
  | 2 => simp [wrK, sgn] at hf ⊢; exact hf
  | 3 => simp [wrK, sgn] at hf ⊢; exact hf
  | 4 => simp [wrK, sgn] at hf ⊢; exact hf
  | 5 => simp [wrK, sgn]
  | 6 => simp [wrK, sgn]
  | 7 => simp [wrK, sgn]
  | n + 8 => simp [wrK, sgn] at hf ⊢; exact hf

theorem full_mem {x : UInt8} {l : Bs} (hx : x ≠ 34) (h : x ∈ fullB l) : x ∈ l ∨ x = 46 := by
  unfold fullB at h
  by_cases hd : (46 : UInt8) ∈ l
  · rw [if_pos hd] at h
    obtain ⟨a, b, rfl, hn⟩ := cut_back hd
    rw [cut_at hn] at h
    rcases List.mem_append.1 h with h | h
    · exact .inl (List.mem_append_left _ (ident_mem hx h))
    · rcases List.mem_cons.1 h with h | h
      · exact .inr h
      · exact .inl (List.mem_append_right _ (List.mem_cons_of_mem _ (ident_mem hx h)))
  · rw [if_neg hd] at h
    exact .inl (ident_mem hx h)
theorem full_length (l : Bs) : (fullB l).length ≤ 2 * l.length + 4 := by
  unfold fullB
  by_cases hd : (46 : UInt8) ∈ l
  · rw [if_pos hd]
    obtain ⟨a, b, rfl, hn⟩ := cut_back hd
    rw [cut_at hn]
    have h1 := ident_length a
    have h2 := ident_length b
    rw [List.length_append, List.length_cons, List.length_append, List.length_cons]
    show (identB a).length + ((identB b).length + 1) ≤ _
    omega
  · rw [if_neg hd]
    have := ident_length l; omega
theorem wr_length (name v : Bs) (j : Nat) (hj : j < 9) : (wrT name v j).length ≤ 2 * name.length + 2 * v.length + 40 := by
  have h1 := full_length name
  have h2 := quoted_length 39 v
  have h3 := quoted_length 34 name
  match j, hj with
  | 0, _ => first | (simp [wrT]; done) | (simp [wrT]; omega)
  | 1, _ => first | (simp [wrT]; done) | (simp [wrT]; omega)
  | 2, _ => first | (simp [wrT]; done) | (simp [wrT]; omega)
  | 3, _ => first | (simp [wrT]; done) | (simp [wrT]; omega)
  | 4, _ => first | (simp [wrT]; done) | (simp [wrT]; omega)
  | 5, _ => first | (simp [wrT]; done) | (simp [wrT]; omega)
  | 6, _ => first | (simp [wrT]; done) | (simp [wrT]; omega)
  | 7, _ => first | (simp [wrT]; done) | (simp [wrT]; omega)
  | 8, _ => first | (simp [wrT]; done) | (simp [wrT]; omega)

theorem part_zero {l : Bs} (h : goodB l = true) : (0 : UInt8) ∉ l := by
  intro hm
  rcases good_cases h with hd | ⟨a, b, rfl, ha, hb⟩
  · rw [goodB_one hd] at h
    simp only [Bool.and_eq_true] at h
    exact (part_facts h.2 0 hm).2.2.2 rfl
  · rcases List.mem_append.1 hm with hm | hm
    · exact (part_facts ha 0 hm).2.2.2 rfl
    · rcases List.mem_cons.1 hm with hm | hm
      · cases hm
      · exact (part_facts hb 0 hm).2.2.2 rfl
theorem wr_zero {name v : Bs} (h : (0 : UInt8) ∉ name) (hv : (0 : UInt8) ∉ v) (j : Nat) : (0 : UInt8) ∉ wrT name v j := by
  have h1 : (0 : UInt8) ∉ fullB name := fun hm => by
    rcases full_mem (by decide) hm with hm | hm
    · exact h hm
    · cases hm
  have h2 : (0 : UInt8) ∉ quoted 39 v := fun hm => hv (quoted_mem (by decide) hm)
  have h3 : (0 : UInt8) ∉ quoted 34 name := fun hm => h (quoted_mem (by decide) hm)
  match j with
  | 0 => simp [wrT, h1, h2]
  | 1 => simp [wrT, h1, h2]
  | 2 => simp [wrT]
  | 3 => simp [wrT, h1]
  | 4 => simp [wrT, h1]
  | 5 => simp [wrT, h3]
  | 6 => simp [wrT, h3]
  | 7 => simp [wrT, h3]
  | n + 8 => simp [wrT, h1, h2]

theorem wr_two : parsedC [115, 101, 116, 32, 34, 120, 34, 46, 34, 121, 34, 32, 116, 111, 32, 100, 101, 102, 97, 117, 108, 116] = (⟨114, [120, 46, 121], []⟩, 0) := by rfl
/-- What is written of a command is that command. -/
theorem wr_parsed {name v : Bs} (hg : goodB name = true) (hv : (0 : UInt8) ∉ v) (hl : name.length + v.length ≤ 300) (j : Nat) (hj : j < 9) : parsedC (wrT name v j) = (wrC name v j, 0) := by
  by_cases h2 : j = 2
  · subst h2; exact wr_two
  obtain ⟨K, hK⟩ := name_k hg
  have hk := wr_kts hK (good_some' hg) v j hj h2
  rw [parsed_free (by have := wr_length name v j hj; omega) (wr_zero (part_zero hg) hv j) hk (fun e => by
    have := wr_of hK v j hj h2
    have hlen := congrArg List.length e
    match j, hj, h2, hlen with
    | 0, _, _, h => simp [wrK] at h
    | 1, _, _, h => simp [wrK] at h
    | 3, _, _, h => simp [wrK] at h
    | 4, _, _, h => simp [wrK] at h
    | 5, _, _, h => simp [wrK] at h
    | 6, _, _, h => simp [wrK] at h
    | 7, _, _, h => simp [wrK] at h
    | 8, _, _, h => simp [wrK] at h) (wr_free hK v j), wr_of hK v j hj h2]
/-- In a good name there is no quote. -/
theorem good_quoted {l : Bs} (h : goodB l = true) : quoted 34 l = 34 :: (l ++ [34]) := by
  have hn : (34 : UInt8) ∉ l := by
    intro hm
    have hp : ∀ p : Bs, partB p = true → (34 : UInt8) ∉ p := fun p hp hm => by
      rcases partB_mem hp 34 hm with h | h <;> cases h
    rcases good_cases h with hd | ⟨a, b, rfl, ha, hb⟩
    · rw [goodB_one hd] at h
      simp only [Bool.and_eq_true] at h
      exact hp l h.2 hm
    · rcases List.mem_append.1 hm with hm | hm
      · exact hp a ha hm
      · rcases List.mem_cons.1 hm with hm | hm
        · cases hm
        · exact hp b hb hm
  unfold quoted
  rw [doubled_none 34 l (List.count_eq_zero.2 hn)]
end Go.Proofs.YtpijolcklmdjbaaGreatDoor
