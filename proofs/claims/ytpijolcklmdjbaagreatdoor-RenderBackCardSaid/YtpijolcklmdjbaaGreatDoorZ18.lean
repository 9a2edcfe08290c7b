/- Contracts and mathematics: PTransM, PValuesM. -/
import Derived.Test.YtpijolcklmdjbaaGreatDoorZ17
namespace Go.Proofs.YtpijolcklmdjbaaGreatDoor
open Go.RowKit Go.Lib Go.WideShapes

/-- The five words, the three endings, and the kinds. -/
def trW : List Bs := [w_begin, w_commit, w_end, w_rollback, w_abort]
def trR : List Bs := [[], 32 :: w_work, 32 :: w_transaction]
def trK : List UInt8 := [98, 99, 99, 107, 107]
def trT (k : Nat) : List (UInt8 × Bs) := if k = 0 then [] else if k = 1 then [(119, w_work)] else [(119, w_transaction)]

theorem tr_alone (i k : Nat) (hi : i < 5) (hk : k < 3) : parsedC (trW.getD i [] ++ trR.getD k []) = (⟨trK.getD i 0, [], []⟩, 0) := by
  match i, hi, k, hk with
  | 0, _, 0, _ => rfl
  | 0, _, 1, _ => rfl
  | 0, _, 2, _ => rfl
  | 1, _, 0, _ => rfl
  | 1, _, 1, _ => rfl
  | 1, _, 2, _ => rfl
  | 2, _, 0, _ => rfl
  | 2, _, 1, _ => rfl
  | 2, _, 2, _ => rfl
  | 3, _, 0, _ => rfl
  | 3, _, 1, _ => rfl
  | 3, _, 2, _ => rfl
  | 4, _, 0, _ => rfl
  | 4, _, 1, _ => rfl
  | 4, _, 2, _ => rfl

theorem tr_word (i : Nat) (hi : i < 5) (r : Bs) : kts (trW.getD i [] ++ 32 :: r) = (kts (32 :: r)).map ((119, trW.getD i []) :: ·) := by
  match i, hi with
  | 0, _ => exact kts_step (l := 98 :: 101 :: 103 :: 105 :: 110 :: 32 :: r) rfl rfl
  | 1, _ => exact kts_step (l := 99 :: 111 :: 109 :: 109 :: 105 :: 116 :: 32 :: r) rfl rfl
  | 2, _ => exact kts_step (l := 101 :: 110 :: 100 :: 32 :: r) rfl rfl
  | 3, _ => exact kts_step (l := 114 :: 111 :: 108 :: 108 :: 98 :: 97 :: 99 :: 107 :: 32 :: r) rfl rfl
  | 4, _ => exact kts_step (l := 97 :: 98 :: 111 :: 114 :: 116 :: 32 :: r) rfl rfl

theorem tr_kts (i k : Nat) (hi : i < 5) (hk : k < 3) (r : Bs) : kts ((trW.getD i [] ++ trR.getD k []) ++ 32 :: r) = (kts r).map (fun K => (119, trW.getD i []) :: (trT k ++ K)) := by
  have hb : kts (32 :: r) = kts r := kts_blank 32 r (by decide)
  match k, hk with
  | 0, _ =>
    show kts ((trW.getD i [] ++ []) ++ 32 :: r) = _
    rw [List.append_nil, tr_word i hi, hb]; rfl
  | 1, _ =>
    show kts ((trW.getD i [] ++ 32 :: w_work) ++ 32 :: r) = _
    rw [List.append_assoc, List.cons_append, tr_word i hi, show kts (32 :: (w_work ++ 32 :: r)) = (kts (32 :: r)).map ((119, w_work) :: ·) from kts_step (l := 32 :: 119 :: 111 :: 114 :: 107 :: 32 :: r) rfl rfl, hb, Option.map_map]
    rfl
  | 2, _ =>
    show kts ((trW.getD i [] ++ 32 :: w_transaction) ++ 32 :: r) = _
    rw [List.append_assoc, List.cons_append, tr_word i hi, show kts (32 :: (w_transaction ++ 32 :: r)) = (kts (32 :: r)).map ((119, w_transaction) :: ·) from kts_step (l := 32 :: 116 :: 114 :: 97 :: 110 :: 115 :: 97 :: 99 :: 116 :: 105 :: 111 :: 110 :: 32 :: r) rfl rfl, hb, Option.map_map]
    rfl

/-- A word with something behind that makes it no command. -/
theorem of_barred {w : Bs} {R : List Tok} {lo hi : Nat} (h : (commandC w R).2 = false) (hb : barredB w = true) : ofC (⟨119, w, lo, hi⟩ :: R) = ⟨117, w, []⟩ := by
  show (if (119 : UInt8) == 119 then (if (commandC w R).2 then (commandC w R).1 else if barredB w then ⟨117, w, []⟩ else ⟨111, w, []⟩) else ⟨111, w, []⟩) = _
  rw [h, hb]; rfl

theorem work_other (b : UInt8 × Bs) (R : List Tok) (h1 : b ≠ (119, w_work)) (h2 : b ≠ (119, w_transaction)) : workW (mk b :: R) = mk b :: R := by
  unfold workW
  have e1 : beginsW (mk b :: R) w_work = false := by
    cases h : beginsW (mk b :: R) w_work with
    | false => rfl
    | true => exfalso; apply h1; simp only [beginsW, mk, Bool.and_eq_true, beq_iff_eq] at h; exact Prod.ext h.1 h.2
  have e2 : beginsW (mk b :: R) w_transaction = false := by
    cases h : beginsW (mk b :: R) w_transaction with
    | false => rfl
    | true => exfalso; apply h2; simp only [beginsW, mk, Bool.and_eq_true, beq_iff_eq] at h; exact Prod.ext h.1 h.2
  rw [e1, e2]; rfl
theorem roll_other (b : UInt8 × Bs) (R : List Tok) (h : b ≠ (119, w_to)) : (rollC (mk b :: R)).2 = false := by
  unfold rollC
  have e1 : beginsW (mk b :: R) w_to = false := by
    cases h1 : beginsW (mk b :: R) w_to with
    | false => rfl
    | true => exfalso; apply h; simp only [beginsW, mk, Bool.and_eq_true, beq_iff_eq] at h1; exact Prod.ext h1.1 h1.2
  rw [e1]; rfl
theorem work_rest (k : Nat) (hk : k < 3) (b : UInt8 × Bs) (R : List (UInt8 × Bs)) (h : k = 0 → b ≠ (119, w_work) ∧ b ≠ (119, w_transaction)) : workW ((trT k ++ b :: R).map mk) = mk b :: R.map mk := by
  match k, hk with
  | 0, _ => exact work_other b _ (h rfl).1 (h rfl).2
  | 1, _ => rfl
  | 2, _ => rfl

/-- What is behind makes it no command. -/
theorem tr_not (i k : Nat) (hi : i < 5) (hk : k < 3) (b : UInt8 × Bs) (R : List (UInt8 × Bs)) (h : k = 0 → b ≠ (119, w_work) ∧ b ≠ (119, w_transaction)) (hto : 2 < i → b ≠ (119, w_to)) : ofC ((((119 : UInt8), trW.getD i []) :: (trT k ++ b :: R)).map mk) = ⟨117, trW.getD i [], []⟩ := by
  have hw := work_rest k hk b R h
  match i, hi with
  | 0, _ => exact of_barred (show ((workW _).length == 0) = false by rw [hw]; rfl) rfl
  | 1, _ => exact of_barred (show ((workW _).length == 0) = false by rw [hw]; rfl) rfl
  | 2, _ => exact of_barred (show ((workW _).length == 0) = false by rw [hw]; rfl) rfl
  | 3, _ => exact of_barred (show (rollC (workW _)).2 = false by rw [hw]; exact roll_other b _ (hto (by decide))) rfl
  | 4, _ => exact of_barred (show (rollC (workW _)).2 = false by rw [hw]; exact roll_other b _ (hto (by decide))) rfl

theorem tr_free (i k : Nat) (hi : i < 5) (hk : k < 3) : sgn ∉ ((119 : UInt8), trW.getD i []) :: trT k := by
  match i, hi, k, hk with
  | 0, _, 0, _ => decide
  | 0, _, 1, _ => decide
  | 0, _, 2, _ => decide
  | 1, _, 0, _ => decide
  | 1, _, 1, _ => decide
  | 1, _, 2, _ => decide
  | 2, _, 0, _ => decide
  | 2, _, 1, _ => decide
  | 2, _, 2, _ => decide
  | 3, _, 0, _ => decide
  | 3, _, 1, _ => decide
  | 3, _, 2, _ => decide
  | 4, _, 0, _ => decide
  | 4, _, 1, _ => decide
  | 4, _, 2, _ => decide

theorem tr_zero (i k : Nat) (hi : i < 5) (hk : k < 3) : (0 : UInt8) ∉ trW.getD i [] ++ trR.getD k [] := by
  match i, hi, k, hk with
  | 0, _, 0, _ => decide
  | 0, _, 1, _ => decide
  | 0, _, 2, _ => decide
  | 1, _, 0, _ => decide
  | 1, _, 1, _ => decide
  | 1, _, 2, _ => decide
  | 2, _, 0, _ => decide
  | 2, _, 1, _ => decide
  | 2, _, 2, _ => decide
  | 3, _, 0, _ => decide
  | 3, _, 1, _ => decide
  | 3, _, 2, _ => decide
  | 4, _, 0, _ => decide
  | 4, _, 1, _ => decide
  | 4, _, 2, _ => decide

/-- With something behind. -/
theorem tr_more (i k : Nat) (hi : i < 5) (hk : k < 3) {r : Bs} {t : Tok} {T : List Tok} (hT : tokens r = some (t :: T)) (hl : ((trW.getD i [] ++ trR.getD k []) ++ 32 :: r).length ≤ 2000) :
    ∃ d, parsedC ((trW.getD i [] ++ trR.getD k []) ++ 32 :: r) = (d, 0) ∧ (kt t = sgn ∨ (2 < i ∧ kt t = (119, w_to)) ∨ (k = 0 ∧ (kt t = (119, w_work) ∨ kt t = (119, w_transaction))) ∨ (d.kind = 117 ∧ d.name = trW.getD i []) ∨ d.kind = 109) := by
  have hk0 := tokens_of_kts hT
  have h0 : (0 : UInt8) ∉ (trW.getD i [] ++ trR.getD k []) ++ 32 :: r := by
    intro h
    rcases List.mem_append.1 h with h | h
    · exact tr_zero i k hi hk h
    · rcases List.mem_cons.1 h with h | h
      · cases h
      · exact tokens_zero hT h
  have hkk : kts ((trW.getD i [] ++ trR.getD k []) ++ 32 :: r) = some ((119, trW.getD i []) :: (trT k ++ (kt t :: T.map kt))) := by
    rw [tr_kts i k hi hk, hk0]; rfl
  obtain ⟨L, hL, hm⟩ := tokens_kts h0 hkk
  refine ⟨parsedT L, parsed_tokens hl hL, ?_⟩
  have hm' : L.map kt = ((119, trW.getD i []) :: trT k) ++ (kt t :: T.map kt) := hm
  rcases parsed_more hm' (by simp) (tr_free i k hi hk) with h | ⟨B', hB, hof, hne⟩
  · exact .inr (.inr (.inr (.inr (by rw [h]))))
  · by_cases hs : kt t = sgn
    · exact .inl hs
    have hn := hne (kt t) rfl hs
    cases B' with
    | nil => exact absurd rfl hn
    | cons b B' =>
      have hbt : b = kt t := by
        have := congrArg List.head? hB
        rw [List.length_cons, List.take_succ_cons] at this
        exact Option.some.inj this
      subst hbt
      by_cases h1 : 2 < i ∧ kt t = (119, w_to)
      · exact .inr (.inl h1)
      by_cases h2 : k = 0 ∧ (kt t = (119, w_work) ∨ kt t = (119, w_transaction))
      · exact .inr (.inr (.inl h2))
      refine .inr (.inr (.inr (.inl ?_)))
      have := tr_not i k hi hk (kt t) B' (fun hk0 => ⟨fun e => h2 ⟨hk0, .inl e⟩, fun e => h2 ⟨hk0, .inr e⟩⟩) (fun hi2 e => h1 ⟨hi2, e⟩)
      rw [hof, show (((119 : UInt8), trW.getD i []) :: trT k) ++ kt t :: B' = ((119 : UInt8), trW.getD i []) :: (trT k ++ kt t :: B') from rfl, this]
      exact ⟨rfl, rfl⟩
end Go.Proofs.YtpijolcklmdjbaaGreatDoor

namespace Go.Proofs.YtpijolcklmdjbaaGreatDoor
open Go.RowKit Go.Lib Go.WideShapes

/-- Digits. -/
def Digs (t : Bs) : Prop := t ≠ [] ∧ t.length ≤ 19 ∧ ∀ c ∈ t, dg c = true

abbrev w_x : Bs := [120]
def vTo : Bs := [115, 101, 116, 32, 120, 32, 116, 111, 32]
def vEq : Bs := [115, 101, 116, 32, 120, 32, 61, 32]

theorem v_to (r : Bs) : kts (vTo ++ r) = (kts r).map (fun K => (119, w_set) :: (119, w_x) :: (119, w_to) :: K) := by
  have hb : ∀ r, kts (32 :: r) = kts r := fun r => kts_blank 32 r (by decide)
  show kts (115 :: 101 :: 116 :: 32 :: 120 :: 32 :: 116 :: 111 :: 32 :: r) = _
  rw [show kts (115 :: 101 :: 116 :: 32 :: 120 :: 32 :: 116 :: 111 :: 32 :: r) = (kts (32 :: 120 :: 32 :: 116 :: 111 :: 32 :: r)).map ((119, w_set) :: ·) from kts_step rfl rfl,
    show kts (32 :: 120 :: 32 :: 116 :: 111 :: 32 :: r) = (kts (32 :: 116 :: 111 :: 32 :: r)).map ((119, w_x) :: ·) from kts_step rfl rfl,
    show kts (32 :: 116 :: 111 :: 32 :: r) = (kts (32 :: r)).map ((119, w_to) :: ·) from kts_step rfl rfl, hb, Option.map_map, Option.map_map]
  rfl
theorem v_eq (r : Bs) : kts (vEq ++ r) = (kts r).map (fun K => (119, w_set) :: (119, w_x) :: (111, [61]) :: K) := by
  have hb : ∀ r, kts (32 :: r) = kts r := fun r => kts_blank 32 r (by decide)
  show kts (115 :: 101 :: 116 :: 32 :: 120 :: 32 :: 61 :: 32 :: r) = _
  rw [show kts (115 :: 101 :: 116 :: 32 :: 120 :: 32 :: 61 :: 32 :: r) = (kts (32 :: 120 :: 32 :: 61 :: 32 :: r)).map ((119, w_set) :: ·) from kts_step rfl rfl,
    show kts (32 :: 120 :: 32 :: 61 :: 32 :: r) = (kts (32 :: 61 :: 32 :: r)).map ((119, w_x) :: ·) from kts_step rfl rfl,
    show kts (32 :: 61 :: 32 :: r) = (kts (32 :: r)).map ((111, [61]) :: ·) from kts_step rfl rfl, hb, Option.map_map, Option.map_map]
  rfl
theorem v_text (s r : Bs) (hr : r.head? ≠ some 39) : kts (quoted 39 s ++ r) = (kts r).map ((115, s) :: ·) := by
  have e : quoted 39 s ++ r = 39 :: (doubled 39 s ++ 39 :: r) := by unfold quoted; simp
  rw [e]
  exact kts_step (sk_first (by decide) (fun e => by cases e.1) (fun e => by cases e.1)) (token_text_read s r hr)
theorem v_digits {d : Bs} (h : Digs d) : kts d = some [(110, d)] := by
  obtain ⟨h0, _, hd⟩ := h
  cases d with
  | nil => exact absurd rfl h0
  | cons c r =>
    have hc := hd c (List.mem_cons_self ..)
    obtain ⟨_, _, _, _, _, h45, h47, _, hbl, _⟩ := dg_facts hc
    have hn : nl (c :: r) = (c :: r).length := by
      have := nl_run (c :: r) [] (fun x hx => .inl (hd x hx))
      rw [List.append_nil] at this
      rw [this]; rfl
    have ht := tok_num (c := c) (r := r) hc
    rw [hn, List.take_length, List.drop_length] at ht
    rw [kts_step (sk_first hbl (fun e => h45 e.1) (fun e => h47 e.1)) ht]
    rfl
theorem v_minus {d : Bs} (h : Digs d) : kts (45 :: d) = some [(111, [45]), (110, d)] := by
  have hd := v_digits h
  obtain ⟨h0, _, hdd⟩ := h
  cases d with
  | nil => exact absurd rfl h0
  | cons c r =>
    have hc := hdd c (List.mem_cons_self ..)
    obtain ⟨_, _, _, _, _, h45, h47, _, hbl, _⟩ := dg_facts hc
    have ht : token (45 :: c :: r) = some (111, [45], c :: r) := tok_sign (by decide) (by decide) (by decide) (by decide) (fun e => by cases e.1) (by decide)
    rw [kts_step (sk_first (x := 45) (r := c :: r) (by decide) (fun e => h45 (Option.some.inj (show some c = some 45 from e.2))) (fun e => by cases e.1)) ht, hd]
    rfl

theorem digs_zero {d : Bs} (h : Digs d) : (0 : UInt8) ∉ d := fun hm => by have := h.2.2 0 hm; cases this

theorem v_a (s : Bs) (h0 : (0 : UInt8) ∉ quoted 39 s) (hl : (vTo ++ quoted 39 s).length ≤ 2000) : parsedC (vTo ++ quoted 39 s) = (⟨115, w_x, s⟩, 0) := by
  have hK : kts (vTo ++ quoted 39 s) = some [(119, w_set), (119, w_x), (119, w_to), (115, s)] := by
    rw [v_to, show quoted 39 s = quoted 39 s ++ [] by rw [List.append_nil], v_text s [] (by simp)]; rfl
  rw [parsed_free hl (fun h => by
    rcases List.mem_append.1 h with h | h
    · revert h; decide
    · exact h0 h) hK (by simp) (by simp [sgn])]
  rfl
theorem v_b {d : Bs} (h : Digs d) : parsedC (vEq ++ d) = (⟨115, w_x, d⟩, 0) := by
  have hK : kts (vEq ++ d) = some [(119, w_set), (119, w_x), (111, [61]), (110, d)] := by
    rw [v_eq, v_digits h]; rfl
  rw [parsed_free (by have := h.2.1; rw [List.length_append]; show 8 + d.length ≤ _; omega) (fun hm => by
    rcases List.mem_append.1 hm with hm | hm
    · revert hm; decide
    · exact digs_zero h hm) hK (by simp) (by simp [sgn])]
  rfl
theorem v_bm {d : Bs} (h : Digs d) : parsedC (vEq ++ 45 :: d) = (⟨115, w_x, 45 :: d⟩, 0) := by
  have hK : kts (vEq ++ 45 :: d) = some [(119, w_set), (119, w_x), (111, [61]), (111, [45]), (110, d)] := by
    rw [v_eq, v_minus h]; rfl
  rw [parsed_free (by have := h.2.1; rw [List.length_append, List.length_cons]; show 8 + (d.length + 1) ≤ _; omega) (fun hm => by
    rcases List.mem_append.1 hm with hm | hm
    · revert hm; decide
    · rcases List.mem_cons.1 hm with hm | hm
      · cases hm
      · exact digs_zero h hm) hK (by simp) (by simp [sgn])]
  rfl
theorem v_c : parsedC [115, 101, 116, 32, 108, 111, 99, 97, 108, 32, 120, 46, 121, 32, 61, 32, 79, 110] = (⟨108, [120, 46, 121], [111, 110]⟩, 0) := by rfl
theorem v_h (s : Bs) {d : Bs} (h : Digs d) (h0 : (0 : UInt8) ∉ quoted 39 s) (hl : (vEq ++ (quoted 39 s ++ 32 :: d)).length ≤ 2000) : parsedC (vEq ++ (quoted 39 s ++ 32 :: d)) = (⟨117, w_set, []⟩, 0) := by
  have hK : kts (vEq ++ (quoted 39 s ++ 32 :: d)) = some [(119, w_set), (119, w_x), (111, [61]), (115, s), (110, d)] := by
    rw [v_eq, v_text s _ (by simp), kts_blank 32 _ (by decide), v_digits h]; rfl
  rw [parsed_free hl (fun hm => by
    rcases List.mem_append.1 hm with hm | hm
    · revert hm; decide
    · rcases List.mem_append.1 hm with hm | hm
      · exact h0 hm
      · rcases List.mem_cons.1 hm with hm | hm
        · cases hm
        · exact digs_zero h hm) hK (by simp) (by simp [sgn])]
  rfl
theorem v_comma (r : Bs) : kts (44 :: r) = (kts r).map ((111, [44]) :: ·) :=
  kts_step (sk_first (by decide) (fun e => by cases e.1) (fun e => by cases e.1)) (token_sign_read 44 r (by decide) (by decide) (by decide) (by decide) (by simp [dg]) (by decide))
theorem v_j (s : Bs) (h0 : (0 : UInt8) ∉ quoted 39 s) (hl : (vEq ++ (quoted 39 s ++ 44 :: 32 :: quoted 39 s)).length ≤ 2000) : parsedC (vEq ++ (quoted 39 s ++ 44 :: 32 :: quoted 39 s)) = (⟨117, w_set, []⟩, 0) := by
  have hK : kts (vEq ++ (quoted 39 s ++ 44 :: 32 :: quoted 39 s)) = some [(119, w_set), (119, w_x), (111, [61]), (115, s), (111, [44]), (115, s)] := by
    have h1 : kts (quoted 39 s) = some [(115, s)] := by rw [show quoted 39 s = quoted 39 s ++ [] by rw [List.append_nil], v_text s [] (by simp)]; rfl
    rw [v_eq, v_text s _ (by simp), v_comma, kts_blank 32 _ (by decide), h1]; rfl
  rw [parsed_free hl (fun hm => by
    rcases List.mem_append.1 hm with hm | hm
    · revert hm; decide
    · rcases List.mem_append.1 hm with hm | hm
      · exact h0 hm
      · rcases List.mem_cons.1 hm with hm | hm
        · cases hm
        · rcases List.mem_cons.1 hm with hm | hm
          · cases hm
          · exact h0 hm) hK (by simp) (by simp [sgn])]
  rfl
end Go.Proofs.YtpijolcklmdjbaaGreatDoor
