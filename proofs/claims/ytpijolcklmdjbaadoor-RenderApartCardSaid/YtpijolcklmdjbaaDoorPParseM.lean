/- What a text asks for: mathematics. -/
import Derived.Test.YtpijolcklmdjbaaDoorPM
import Derived.Test.YtpijolcklmdjbaaDoorNTakesM
import Derived.Test.YtpijolcklmdjbaaDoorOneM
namespace Go.Proofs.YtpijolcklmdjbaaDoor
open Go.RowKit Go.Lib Go.WideShapes

/-- What a text asks for, and the number of what is wrong. -/
def parsedT (T : List Tok) : Cmd := match splits T with
  | [] => ⟨48, [], []⟩
  | [x] => ofC x
  | _ :: _ :: _ => ⟨109, [], []⟩
def parsedC (s : Bs) : Cmd × Nat := if 2000 < s.length then (noCmd, 3) else match tokens s with
  | none => (noCmd, 2)
  | some T => (parsedT T, 0)

/-- A token without its places. -/
def zt (t : Tok) : Tok := ⟨t.kind, t.text, 0, 0⟩
def mk (x : UInt8 × Bs) : Tok := ⟨x.1, x.2, 0, 0⟩
theorem zt_kt (T : List Tok) : T.map zt = (T.map kt).map mk := by rw [List.map_map]; rfl
theorem z_begins (T : List Tok) (w : Bs) : beginsW (T.map zt) w = beginsW T w := by cases T <;> rfl
theorem z_alone (T : List Tok) (w : Bs) : aloneW (T.map zt) w = aloneW T w := by unfold aloneW; rw [z_begins, List.length_map]
theorem z_drop (T : List Tok) (k : Nat) : (T.map zt).drop k = (T.drop k).map zt := List.map_drop.symm
theorem z_work (T : List Tok) : workW (T.map zt) = (workW T).map zt := by
  unfold workW
  rw [z_begins, z_begins, z_drop]
  split <;> rfl
theorem z_save (T : List Tok) : saveW (T.map zt) = (saveW T).map zt := by
  unfold saveW
  rw [z_begins, z_drop, List.length_map]
  split <;> rfl
theorem z_takes (T : List Tok) : takes (T.map zt) = takes T := by
  match T with
  | [] => rfl
  | [t] => rfl
  | [t, u] => rfl
  | t :: u :: v :: r => rfl
theorem z_head (T : List Tok) : nmHead (T.map zt) = nmHead T := by cases T <;> rfl
theorem z_take (T : List Tok) : takeB (T.map zt) = takeB T := by unfold takeB; rw [z_takes, z_head]
theorem z_named (k : UInt8) (T : List Tok) : namedC k (T.map zt) = namedC k T := by unfold namedC; rw [z_take, List.length_map]
theorem z_point (k : UInt8) (T : List Tok) : pointC k (T.map zt) = pointC k T := by
  match T with
  | [] => rfl
  | [t] => rfl
  | t :: u :: r => rfl
theorem z_roll (T : List Tok) : rollC (T.map zt) = rollC T := by unfold rollC; rw [z_begins, z_drop, z_save, z_point, List.length_map]
theorem z_value (T : List Tok) : valueB (T.map zt) = valueB T := by
  match T with
  | [] => rfl
  | [t] => rfl
  | [t, u] => rfl
  | t :: u :: v :: r => rfl
theorem z_row (T : List Tok) : setRow (T.map zt) = ((setRow T).1, (setRow T).2.map zt) := by
  unfold setRow
  rw [z_begins, z_begins, z_drop, z_begins, List.length_map, List.getElem?_map, Option.map_map, show nm ∘ zt = nm from rfl]
  split
  · rfl
  · split <;> rfl
theorem z_set (T : List Tok) : setC (T.map zt) = setC T := by
  unfold setC
  rw [z_row]
  simp only [z_take, z_drop, z_alone, z_value, List.length_map, List.getElem?_map, Option.map_map]
  rfl
theorem z_command (w : Bs) (T : List Tok) : commandC w (T.map zt) = commandC w T := by
  unfold commandC
  simp only [z_set, z_alone, z_named, z_work, z_roll, z_point, z_save, List.length_map]
theorem z_of (T : List Tok) : ofC (T.map zt) = ofC T := by
  cases T with
  | nil => rfl
  | cons t r =>
    show (if t.kind == 119 then (if (commandC t.text (r.map zt)).2 then (commandC t.text (r.map zt)).1 else if barredB t.text then ⟨117, t.text, []⟩ else ⟨111, t.text, []⟩) else ⟨111, t.text, []⟩) = _
    rw [z_command]
    rfl
/-- What tokens ask for is told by their kinds and texts. -/
theorem of_kts {T : List Tok} {K : List (UInt8 × Bs)} (h : T.map kt = K) : ofC T = ofC (K.map mk) := by rw [← h, ← zt_kt, z_of]

theorem tokens_zero {l : Bs} {T : List Tok} (h : tokens l = some T) : (0 : UInt8) ∉ l := by
  intro h0
  unfold tokens at h
  rw [if_pos (by simpa using h0)] at h
  cases h

theorem parsed_tokens {s : Bs} {T : List Tok} (hs : s.length ≤ 2000) (h : tokens s = some T) : parsedC s = (parsedT T, 0) := by
  unfold parsedC
  rw [if_neg (by omega), h]
theorem parsed_none {s : Bs} (hs : s.length ≤ 2000) (h : tokens s = none) : parsedC s = (noCmd, 2) := by
  unfold parsedC
  rw [if_neg (by omega), h]
theorem parsed_free {s : Bs} {K : List (UInt8 × Bs)} (hs : s.length ≤ 2000) (h0 : (0 : UInt8) ∉ s) (h : kts s = some K) (hK : K ≠ []) (hf : sgn ∉ K) : parsedC s = (ofC (K.map mk), 0) := by
  obtain ⟨T, hT, hm⟩ := tokens_kts h0 h
  rw [parsed_tokens hs hT]
  unfold parsedT
  rw [splits_free (map_ne hm hK) (free_kt hm hf)]
  show (ofC T, 0) = _
  rw [of_kts hm]

theorem semiAt_more : ∀ (A : List Tok) (L : List Tok), (∀ t ∈ A, semi t = false) → semiAt (A ++ L) = A.length + semiAt L := by
  intro A
  induction A with
  | nil => intro L _; rw [List.nil_append, List.length_nil, Nat.zero_add]
  | cons t A ih =>
    intro L h
    rw [List.cons_append, semiAt_cons, if_neg (by rw [h t (List.mem_cons_self ..)]; simp), ih L (fun x hx => h x (List.mem_cons_of_mem _ hx)), List.length_cons]
    omega

theorem kt_semi {t : Tok} (h : kt t ≠ sgn) : semi t = false := by
  cases hs : semi t with
  | false => rfl
  | true =>
    exfalso
    unfold semi at hs
    simp only [Bool.and_eq_true, beq_iff_eq] at hs
    exact h (by unfold kt sgn; rw [hs.1, hs.2])

/-- A statement that begins so is many, or one that begins so. -/
theorem parsed_more {T : List Tok} {A B : List (UInt8 × Bs)} (hT : T.map kt = A ++ B) (hA : A ≠ []) (hf : sgn ∉ A) : parsedT T = ⟨109, [], []⟩ ∨ ∃ B', B' = B.take B'.length ∧ parsedT T = ofC ((A ++ B').map mk) ∧ (∀ u, B.head? = some u → u ≠ sgn → B' ≠ []) := by
  obtain ⟨TA, TB, rfl, eA, eB⟩ := List.map_eq_append_iff.1 hT
  have hfa := free_kt eA hf
  have hpos : 0 < TA.length := List.length_pos_iff.2 (map_ne eA hA)
  have hne : TA ++ TB ≠ [] := fun e => by have h := congrArg List.length e; rw [List.length_append, List.length_nil] at h; omega
  have hs := semiAt_more TA TB hfa
  have hst := splits_step hne
  rw [if_neg (by omega), hs] at hst
  have htk : (TA ++ TB).take (TA.length + semiAt TB) = TA ++ TB.take (semiAt TB) := by rw [List.take_length_add_append]
  rw [htk] at hst
  unfold parsedT
  cases hr : splits ((TA ++ TB).drop (min (TA.length + semiAt TB + 1) (TA ++ TB).length)) with
  | cons y ys => left; rw [hst, hr]; rfl
  | nil =>
    right
    rw [hst, hr]
    have hln : ((TB.take (semiAt TB)).map kt).length = min (semiAt TB) TB.length := by rw [List.length_map, List.length_take]
    refine ⟨(TB.take (semiAt TB)).map kt, ?_, of_kts (by rw [List.map_append, eA]), ?_⟩
    · rw [← eB, hln, ← List.map_take]
      congr 1
      rw [Nat.min_def]
      split
      · rfl
      · rw [List.take_of_length_le (by omega), List.take_of_length_le (Nat.le_refl _)]
    · intro u hu hus e
      cases TB with
      | nil => rw [← eB] at hu; cases hu
      | cons t TB =>
        rw [← eB] at hu
        cases hu
        rw [semiAt_cons, if_neg (by rw [kt_semi hus]; simp)] at e
        simp at e
end Go.Proofs.YtpijolcklmdjbaaDoor
