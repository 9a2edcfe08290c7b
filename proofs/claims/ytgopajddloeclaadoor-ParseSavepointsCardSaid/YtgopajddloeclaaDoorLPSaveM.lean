/- A savepoint's name: mathematics. -/
import Derived.Test.YtgopajddloeclaaDoorLPTransM
namespace Go.Proofs.YtgopajddloeclaaDoor
open Go.RowKit Go.Lib Go.WideShapes

def svW : List Bs := [w_savepoint, w_release, w_release ++ 32 :: w_savepoint, w_rollback ++ 32 :: w_to, w_abort ++ 32 :: (w_work ++ 32 :: (w_to ++ 32 :: w_savepoint))]
def svF : List Bs := [w_savepoint, w_release, w_release, w_rollback, w_abort]
def svK : List UInt8 := [112, 101, 101, 116, 116]
def svA : List (List (UInt8 × Bs)) := [[(119, w_savepoint)], [(119, w_release)], [(119, w_release), (119, w_savepoint)], [(119, w_rollback), (119, w_to)], [(119, w_abort), (119, w_work), (119, w_to), (119, w_savepoint)]]

theorem sv_kts (k : Nat) (hk : k < 5) (r : Bs) : kts (svW.getD k [] ++ 32 :: r) = (kts (32 :: r)).map (fun K => svA.getD k [] ++ K) := by
  have s1 : ∀ r, kts (w_savepoint ++ 32 :: r) = (kts (32 :: r)).map ((119, w_savepoint) :: ·) := fun r => kts_step (l := 115 :: 97 :: 118 :: 101 :: 112 :: 111 :: 105 :: 110 :: 116 :: 32 :: r) rfl rfl
  have s2 : ∀ r, kts (w_release ++ 32 :: r) = (kts (32 :: r)).map ((119, w_release) :: ·) := fun r => kts_step (l := 114 :: 101 :: 108 :: 101 :: 97 :: 115 :: 101 :: 32 :: r) rfl rfl
  have s3 : ∀ r, kts (w_rollback ++ 32 :: r) = (kts (32 :: r)).map ((119, w_rollback) :: ·) := fun r => kts_step (l := 114 :: 111 :: 108 :: 108 :: 98 :: 97 :: 99 :: 107 :: 32 :: r) rfl rfl
  have s4 : ∀ r, kts (w_to ++ 32 :: r) = (kts (32 :: r)).map ((119, w_to) :: ·) := fun r => kts_step (l := 116 :: 111 :: 32 :: r) rfl rfl
  have s5 : ∀ r, kts (w_abort ++ 32 :: r) = (kts (32 :: r)).map ((119, w_abort) :: ·) := fun r => kts_step (l := 97 :: 98 :: 111 :: 114 :: 116 :: 32 :: r) rfl rfl
  have s6 : ∀ r, kts (w_work ++ 32 :: r) = (kts (32 :: r)).map ((119, w_work) :: ·) := fun r => kts_step (l := 119 :: 111 :: 114 :: 107 :: 32 :: r) rfl rfl
  have hb : ∀ r, kts (32 :: r) = kts r := fun r => kts_blank 32 r (by decide)
  match k, hk with
  | 0, _ => exact s1 r
  | 1, _ => exact s2 r
  | 2, _ =>
    show kts (w_release ++ 32 :: (w_savepoint ++ 32 :: r)) = _
    rw [s2, hb, s1, Option.map_map]; rfl
  | 3, _ =>
    show kts (w_rollback ++ 32 :: (w_to ++ 32 :: r)) = _
    rw [s3, hb, s4, Option.map_map]; rfl
  | 4, _ =>
    show kts (w_abort ++ 32 :: (w_work ++ 32 :: (w_to ++ 32 :: (w_savepoint ++ 32 :: r)))) = _
    rw [s5, hb, s6, hb, s4, hb, s1, Option.map_map, Option.map_map, Option.map_map]; rfl

theorem sv_name (n r : Bs) (hn : n ≠ []) (hr : r.head? ≠ some 34) : kts (32 :: (quoted 34 n ++ r)) = (kts r).map ((113, n) :: ·) := by
  rw [kts_blank 32 _ (by decide)]
  have e : quoted 34 n ++ r = 34 :: (doubled 34 n ++ 34 :: r) := by unfold quoted; simp
  rw [e]
  exact kts_step (sk_first (by decide) (fun e => by cases e.1) (fun e => by cases e.1)) (token_name_read n r hn hr)

theorem sv_zero (k : Nat) (hk : k < 5) : (0 : UInt8) ∉ svW.getD k [] := by
  match k, hk with
  | 0, _ => decide
  | 1, _ => decide
  | 2, _ => decide
  | 3, _ => decide
  | 4, _ => decide
theorem sv_nosign (k : Nat) (hk : k < 5) (n : Bs) : sgn ∉ svA.getD k [] ++ [(113, n)] := by
  intro h
  rcases List.mem_append.1 h with h | h
  · match k, hk, h with
    | 0, _, h => revert h; decide
    | 1, _, h => revert h; decide
    | 2, _, h => revert h; decide
    | 3, _, h => revert h; decide
    | 4, _, h => revert h; decide
  · rw [List.mem_singleton] at h; cases h

theorem sv_of (k : Nat) (hk : k < 5) (n : Bs) : ofC ((svA.getD k [] ++ [(113, n)]).map mk) = ⟨svK.getD k 0, n, []⟩ := by
  match k, hk with
  | 0, _ => rfl
  | 1, _ => rfl
  | 2, _ => rfl
  | 3, _ => rfl
  | 4, _ => rfl

theorem sv_alone (k : Nat) (hk : k < 5) (n : Bs) (hn : n ≠ []) (h0 : (0 : UInt8) ∉ quoted 34 n) (hl : (svW.getD k [] ++ 32 :: quoted 34 n).length ≤ 2000) : parsedC (svW.getD k [] ++ 32 :: quoted 34 n) = (⟨svK.getD k 0, n, []⟩, 0) := by
  have hK : kts (svW.getD k [] ++ 32 :: quoted 34 n) = some (svA.getD k [] ++ [(113, n)]) := by
    rw [sv_kts k hk, show (32 : UInt8) :: quoted 34 n = 32 :: (quoted 34 n ++ []) by rw [List.append_nil], sv_name n [] hn (by simp)]; rfl
  rw [parsed_free hl (fun h => by
    rcases List.mem_append.1 h with h | h
    · exact sv_zero k hk h
    · rcases List.mem_cons.1 h with h | h
      · cases h
      · exact h0 h) hK (by simp) (sv_nosign k hk n), sv_of k hk n]

theorem point_two (k : UInt8) (a b : Tok) (R : List Tok) : pointC k (a :: b :: R) = (noCmd, false) := rfl
theorem save_name (n : Bs) (b : Tok) (R : List Tok) : saveW (mk (113, n) :: b :: R) = mk (113, n) :: b :: R := by
  unfold saveW
  have : beginsW (mk (113, n) :: b :: R) w_savepoint = false := rfl
  rw [this, Bool.and_false]; rfl
theorem save_save (n : Bs) (b : Tok) (R : List Tok) : saveW (mk (119, w_savepoint) :: mk (113, n) :: b :: R) = mk (113, n) :: b :: R := by
  unfold saveW
  have h1 : beginsW (mk (119, w_savepoint) :: mk (113, n) :: b :: R) w_savepoint = true := rfl
  have h2 : decide (1 < (mk (119, w_savepoint) :: mk (113, n) :: b :: R).length) = true := by simp
  rw [h1, h2]; rfl
theorem sv_not (k : Nat) (hk : k < 5) (n : Bs) (b : UInt8 × Bs) (R : List (UInt8 × Bs)) : ofC ((svA.getD k [] ++ (113, n) :: b :: R).map mk) = ⟨117, svF.getD k [], []⟩ := by
  match k, hk with
  | 0, _ => exact of_barred rfl rfl
  | 1, _ => exact of_barred (show (pointC 101 (saveW (mk (113, n) :: mk b :: R.map mk))).2 = false by rw [save_name]; rfl) rfl
  | 2, _ => exact of_barred (show (pointC 101 (saveW (mk (119, w_savepoint) :: mk (113, n) :: mk b :: R.map mk))).2 = false by rw [save_save]; rfl) rfl
  | 3, _ => exact of_barred (show (pointC 116 (saveW (mk (113, n) :: mk b :: R.map mk))).2 = false by rw [save_name]; rfl) rfl
  | 4, _ => exact of_barred (show (pointC 116 (saveW (mk (119, w_savepoint) :: mk (113, n) :: mk b :: R.map mk))).2 = false by rw [save_save]; rfl) rfl

theorem sv_more (k : Nat) (hk : k < 5) (n : Bs) (hn : n ≠ []) (h0 : (0 : UInt8) ∉ quoted 34 n) {r : Bs} {t : Tok} {T : List Tok} (hT : tokens r = some (t :: T)) (hs : t.text ≠ [59]) (hl : (svW.getD k [] ++ 32 :: (quoted 34 n ++ 32 :: r)).length ≤ 2000) :
    parsedC (svW.getD k [] ++ 32 :: (quoted 34 n ++ 32 :: r)) = (⟨117, svF.getD k [], []⟩, 0) ∨ parsedC (svW.getD k [] ++ 32 :: (quoted 34 n ++ 32 :: r)) = (⟨109, [], []⟩, 0) := by
  have hk0 := tokens_of_kts hT
  have hz : (0 : UInt8) ∉ svW.getD k [] ++ 32 :: (quoted 34 n ++ 32 :: r) := by
    intro h
    rcases List.mem_append.1 h with h | h
    · exact sv_zero k hk h
    · rcases List.mem_cons.1 h with h | h
      · cases h
      · rcases List.mem_append.1 h with h | h
        · exact h0 h
        · rcases List.mem_cons.1 h with h | h
          · cases h
          · exact tokens_zero hT h
  have hK : kts (svW.getD k [] ++ 32 :: (quoted 34 n ++ 32 :: r)) = some ((svA.getD k [] ++ [(113, n)]) ++ (kt t :: T.map kt)) := by
    rw [sv_kts k hk, sv_name n (32 :: r) hn (by simp), kts_blank 32 _ (by decide), hk0]
    simp
  obtain ⟨L, hL, hm⟩ := tokens_kts hz hK
  rw [parsed_tokens hl hL]
  rcases parsed_more hm (by simp) (sv_nosign k hk n) with h | ⟨B', hB, hof, hne⟩
  · exact .inr (by rw [h])
  · have hns := hne (kt t) rfl (fun e => hs (congrArg Prod.snd e))
    cases B' with
    | nil => exact absurd rfl hns
    | cons b B' =>
      left
      rw [hof, List.append_assoc]
      show (ofC ((svA.getD k [] ++ (113, n) :: b :: B').map mk), 0) = _
      rw [sv_not k hk n b B']
end Go.Proofs.YtgopajddloeclaaDoor
