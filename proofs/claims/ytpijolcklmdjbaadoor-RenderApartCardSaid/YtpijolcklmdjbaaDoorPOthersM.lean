/- A statement that begins with no word of the table: mathematics. -/
import Derived.Test.YtpijolcklmdjbaaDoorPParseM
namespace Go.Proofs.YtpijolcklmdjbaaDoor
open Go.RowKit Go.Lib Go.WideShapes

/-- The five words, as they are written, and as they are read. -/
def othT : List Bs := [[115, 101, 108, 101, 99, 116], [73, 110, 115, 101, 114, 116], [117, 112, 100, 97, 116, 101], [119, 105, 116, 104], [118, 97, 99, 117, 117, 109]]
def othK : List Bs := [[115, 101, 108, 101, 99, 116], [105, 110, 115, 101, 114, 116], [117, 112, 100, 97, 116, 101], [119, 105, 116, 104], [118, 97, 99, 117, 117, 109]]

theorem oth_kts (i : Nat) (hi : i < 5) (r : Bs) : kts (othT.getD i [] ++ 32 :: r) = (kts r).map ((119, othK.getD i []) :: ·) := by
  have hb : kts (32 :: r) = kts r := kts_blank 32 r (by decide)
  rw [← hb]
  match i, hi with
  | 0, _ => exact kts_step (l := 115 :: 101 :: 108 :: 101 :: 99 :: 116 :: 32 :: r) rfl rfl
  | 1, _ => exact kts_step (l := 73 :: 110 :: 115 :: 101 :: 114 :: 116 :: 32 :: r) rfl rfl
  | 2, _ => exact kts_step (l := 117 :: 112 :: 100 :: 97 :: 116 :: 101 :: 32 :: r) rfl rfl
  | 3, _ => exact kts_step (l := 119 :: 105 :: 116 :: 104 :: 32 :: r) rfl rfl
  | 4, _ => exact kts_step (l := 118 :: 97 :: 99 :: 117 :: 117 :: 109 :: 32 :: r) rfl rfl

theorem tokens_of_kts {l : Bs} {T : List Tok} (h : tokens l = some T) : kts l = some (T.map kt) := by
  unfold tokens at h
  split at h
  · cases h
  · unfold kts; rw [h]; rfl

/-- The first statement of tokens the first of which is no sign begins with it. -/
theorem splits_head {T : List Tok} {t : Tok} {R : List Tok} (h : T = t :: R) (hs : semi t = false) : ∃ y ys, splits T = (t :: y) :: ys := by
  subst h
  have hst := splits_step (R := t :: R) (by simp)
  have e : semiAt (t :: R) = semiAt R + 1 := by rw [semiAt_cons, hs, Nat.add_comm]; rfl
  rw [e, if_neg (Nat.succ_ne_zero _), List.take_succ_cons] at hst
  exact ⟨_, _, hst⟩

theorem oth_of (i : Nat) (hi : i < 5) (t : Tok) (h : kt t = (119, othK.getD i [])) (y : List Tok) : ofC (t :: y) = ⟨111, othK.getD i [], []⟩ := by
  have hk : t.kind = 119 := congrArg Prod.fst h
  have ht : t.text = othK.getD i [] := congrArg Prod.snd h
  show (if t.kind == 119 then (if (commandC t.text y).2 then (commandC t.text y).1 else if barredB t.text then ⟨117, t.text, []⟩ else ⟨111, t.text, []⟩) else ⟨111, t.text, []⟩) = _
  rw [hk, ht]
  match i, hi with
  | 0, _ => rfl
  | 1, _ => rfl
  | 2, _ => rfl
  | 3, _ => rfl
  | 4, _ => rfl

/-- What a text asks for that begins with such a word. -/
theorem oth_parsed (i : Nat) (hi : i < 5) {r : Bs} {T : List Tok} (hT : tokens (othT.getD i [] ++ 32 :: r) = some T) :
    parsedT T = (if (splits T).length = 1 then ⟨111, othK.getD i [], []⟩ else ⟨109, [], []⟩) ∧ 1 ≤ (splits T).length := by
  have hk := tokens_of_kts hT
  rw [oth_kts i hi] at hk
  cases hr : kts r with
  | none => rw [hr] at hk; cases hk
  | some K =>
    rw [hr] at hk
    have hk' : T.map kt = (119, othK.getD i []) :: K := (Option.some.inj hk).symm
    cases T with
    | nil => cases hk'
    | cons t R =>
      rw [List.map_cons, List.cons.injEq] at hk'
      have hs : semi t = false := kt_semi (by rw [hk'.1]; intro e; cases e)
      obtain ⟨y, ys, hy⟩ := splits_head rfl hs
      unfold parsedT
      rw [hy]
      cases ys with
      | nil => exact ⟨by rw [if_pos (show [t :: y].length = 1 from rfl)]; exact oth_of i hi t hk'.1 y, Nat.le_refl _⟩
      | cons z zs => exact ⟨by rw [if_neg (show ¬ (((t :: y) :: z :: zs).length = 1) by simp)], by simp⟩
end Go.Proofs.YtpijolcklmdjbaaDoor
