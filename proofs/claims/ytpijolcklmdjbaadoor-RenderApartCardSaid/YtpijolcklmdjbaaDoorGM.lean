/- A command as a statement: mathematics. -/
import Derived.Test.YtpijolcklmdjbaaDoorPWritesM
namespace Go.Proofs.YtpijolcklmdjbaaDoor
open Go.RowKit Go.Lib Go.WideShapes

abbrev g_set : Bs := [83, 69, 84, 32]
abbrev g_setl : Bs := [83, 69, 84, 32, 76, 79, 67, 65, 76, 32]
abbrev g_reset : Bs := [82, 69, 83, 69, 84, 32]
abbrev g_all : Bs := [82, 69, 83, 69, 84, 32, 65, 76, 76]
abbrev g_discard : Bs := [68, 73, 83, 67, 65, 82, 68, 32, 65, 76, 76]
abbrev g_begin : Bs := [66, 69, 71, 73, 78]
abbrev g_commit : Bs := [67, 79, 77, 77, 73, 84]
abbrev g_rollback : Bs := [82, 79, 76, 76, 66, 65, 67, 75]
/-- The text of a command that sets a value. -/
def asgT (w n v : Bs) : Bs := w ++ (fullB n ++ (32 :: 84 :: 79 :: 32 :: quoted 39 v))
def okV (v : Bs) : Bool := decide (v.length ≤ 60) && decide ((0 : UInt8) ∉ v)
def asgO (w n v : Bs) : Option Bs := if okV v then some (asgT w n v) else none
/-- The statement of a command, if there is one. -/
def statT (k : UInt8) (n v : Bs) : Option Bs :=
  if k = 115 then (if goodB n then asgO g_set n v else none)
  else if k = 108 then (if goodB n then asgO g_setl n v else none)
  else if k = 114 then (if goodB n then some (g_reset ++ fullB n) else none)
  else if k = 97 then some g_all
  else if k = 120 then some g_discard
  else if k = 98 then some g_begin
  else if k = 99 then some g_commit
  else if k = 107 then some g_rollback
  else none
/-- The command that it is read as. -/
def backC (k : UInt8) (n v : Bs) : Cmd :=
  ⟨k, if k = 115 ∨ k = 108 ∨ k = 114 then n else [], if k = 115 ∨ k = 108 then v else []⟩

theorem g_kts_set (r : Bs) : kts (g_set ++ r) = (kts r).map ((119, w_set) :: ·) :=
  ((show kts (83 :: 69 :: 84 :: 32 :: r) = (kts (32 :: r)).map ((119, w_set) :: ·) from kts_step rfl rfl).trans (by rw [kts_blank 32 r (by decide)]))
theorem g_kts_setl (r : Bs) : kts (g_setl ++ r) = (kts r).map (fun K => (119, w_set) :: (119, w_local) :: K) := by
  show kts (83 :: 69 :: 84 :: 32 :: 76 :: 79 :: 67 :: 65 :: 76 :: 32 :: r) = _
  rw [show kts (83 :: 69 :: 84 :: 32 :: 76 :: 79 :: 67 :: 65 :: 76 :: 32 :: r) = (kts (32 :: 76 :: 79 :: 67 :: 65 :: 76 :: 32 :: r)).map ((119, w_set) :: ·) from kts_step rfl rfl, show kts (32 :: 76 :: 79 :: 67 :: 65 :: 76 :: 32 :: r) = (kts (32 :: r)).map ((119, w_local) :: ·) from kts_step rfl rfl, kts_blank 32 r (by decide), Option.map_map]; rfl
theorem g_kts_reset (r : Bs) : kts (g_reset ++ r) = (kts r).map ((119, w_reset) :: ·) :=
  ((show kts (82 :: 69 :: 83 :: 69 :: 84 :: 32 :: r) = (kts (32 :: r)).map ((119, w_reset) :: ·) from kts_step rfl rfl).trans (by rw [kts_blank 32 r (by decide)]))
theorem g_kts_to (v : Bs) : kts (32 :: 84 :: 79 :: 32 :: quoted 39 v) = some [(119, w_to), (115, v)] := by
  have hl : kts (quoted 39 v) = some [(115, v)] := by rw [show quoted 39 v = quoted 39 v ++ [] by rw [List.append_nil], v_text v [] (by simp)]; rfl
  rw [kts_blank 32 _ (by decide), (show kts (84 :: 79 :: 32 :: quoted 39 v) = (kts (32 :: quoted 39 v)).map ((119, w_to) :: ·) from kts_step rfl rfl), kts_blank 32 _ (by decide), hl]; rfl

theorem asg_zero {w n v : Bs} (hw : (0 : UInt8) ∉ w) (hn : goodB n = true) (hv : (0 : UInt8) ∉ v) : (0 : UInt8) ∉ asgT w n v := by
  have h1 : (0 : UInt8) ∉ fullB n := fun hm => by
    rcases full_mem (by decide) hm with hm | hm
    · exact part_zero hn hm
    · cases hm
  have h2 : (0 : UInt8) ∉ quoted 39 v := fun hm => hv (quoted_mem (by decide) hm)
  simp [asgT, hw, h1, h2]
theorem good_len {n : Bs} (h : goodB n = true) : n.length ≤ 63 := by
  unfold goodB at h
  simp only [Bool.and_eq_true, decide_eq_true_eq] at h
  exact h.1
theorem okV_of {v : Bs} (h : okV v = true) : v.length ≤ 60 ∧ (0 : UInt8) ∉ v := by
  unfold okV at h
  simp only [Bool.and_eq_true, decide_eq_true_eq] at h
  exact h
theorem asg_len {w n v : Bs} (hw : w.length ≤ 10) (hn : goodB n = true) (hv : okV v = true) : (asgT w n v).length ≤ 266 := by
  have h1 := full_length n
  have h2 := quoted_length 39 v
  have h3 := good_len hn
  have h4 := (okV_of hv).1
  simp [asgT]; omega
theorem full_zero {n : Bs} (hn : goodB n = true) : (0 : UInt8) ∉ fullB n := fun hm => by
  rcases full_mem (by decide) hm with hm | hm
  · exact part_zero hn hm
  · cases hm
theorem stat_small {k : UInt8} {n v s : Bs} (h : statT k n v = some s) : s.length ≤ 266 ∧ (0 : UInt8) ∉ s := by
  unfold statT asgO at h
  split at h
  · split at h
    · split at h
      · cases h; rename_i h1 h2; exact ⟨asg_len (by decide) h1 h2, asg_zero (by decide) h1 (okV_of h2).2⟩
      · cases h
    · cases h
  · split at h
    · split at h
      · split at h
        · cases h; rename_i h1 h2; exact ⟨asg_len (by decide) h1 h2, asg_zero (by decide) h1 (okV_of h2).2⟩
        · cases h
      · cases h
    · split at h
      · split at h
        · cases h
          rename_i h1
          have h2 := full_length n
          have h3 := good_len h1
          exact ⟨by simp; omega, by simp [full_zero h1]⟩
        · cases h
      · split at h
        · cases h; decide
        · split at h
          · cases h; decide
          · split at h
            · cases h; decide
            · split at h
              · cases h; decide
              · split at h
                · cases h; decide
                · cases h
theorem g_hof (w : Bs) (R : List Tok) (c : Cmd) (e : commandC w R = (c, true)) : ofC (mk (119, w) :: R) = c := by
  show (if (119 : UInt8) == 119 then (if (commandC w R).2 then (commandC w R).1 else if barredB w then ⟨117, w, []⟩ else ⟨111, w, []⟩) else ⟨111, w, []⟩) = _
  rw [e]; rfl
/-- What is rendered is parsed as the command. -/
theorem stat_back {k : UInt8} {n v s : Bs} (h : statT k n v = some s) : parsedC s = (backC k n v, 0) := by
  have hsm := stat_small h
  unfold statT asgO at h
  split at h
  · rename_i hk
    subst hk
    split at h
    · rename_i hg
      split at h
      · cases h
        obtain ⟨K, hK⟩ := name_k hg
        have hk : kts (asgT g_set n v) = some ((119, w_set) :: (K ++ [(119, w_to), (115, v)])) := by
          unfold asgT
          rw [g_kts_set, hK.read _ ⟨by simp, by simp, fun c hc => by cases hc; rfl⟩, g_kts_to]; rfl
        have hf := hK.free
        rw [parsed_free (by omega) hsm.2 hk (by simp) (by simp [sgn] at hf ⊢; exact hf)]
        have := g_hof w_set ((K ++ [(119, w_to), (115, v)]).map mk) ⟨115, n, v⟩ (by rw [List.map_append]; exact w_set1 hK (119, w_to) v rfl (fun e => by cases e))
        rw [List.map_cons, this]; rfl
      · cases h
    · cases h
  · rename_i hk1
    split at h
    · rename_i hk
      subst hk
      split at h
      · rename_i hg
        split at h
        · cases h
          obtain ⟨K, hK⟩ := name_k hg
          have hk : kts (asgT g_setl n v) = some ((119, w_set) :: (119, w_local) :: (K ++ [(119, w_to), (115, v)])) := by
            unfold asgT
            rw [g_kts_setl, hK.read _ ⟨by simp, by simp, fun c hc => by cases hc; rfl⟩, g_kts_to]; rfl
          have hf := hK.free
          rw [parsed_free (by omega) hsm.2 hk (by simp) (by simp [sgn] at hf ⊢; exact hf)]
          have := g_hof w_set (((119, w_local) :: (K ++ [(119, w_to), (115, v)])).map mk) ⟨108, n, v⟩ (by rw [List.map_cons, List.map_append]; exact w_setl hK (119, w_to) v rfl (fun e => by cases e))
          rw [List.map_cons, this]; rfl
        · cases h
      · cases h
    · rename_i hk2
      split at h
      · rename_i hk
        subst hk
        split at h
        · rename_i hg
          cases h
          obtain ⟨K, hK⟩ := name_k hg
          have hn : kts (fullB n) = some K := by have := hK.read [] ⟨by simp, by simp, fun c hc => by cases hc⟩; rw [List.append_nil] at this; rw [this]; show some (K ++ []) = _; rw [List.append_nil]
          have hk : kts (g_reset ++ fullB n) = some ((119, w_reset) :: K) := by rw [g_kts_reset, hn]; rfl
          have hf := hK.free
          rw [parsed_free (by omega) hsm.2 hk (by simp) (by simp [sgn] at hf ⊢; exact hf)]
          have := g_hof w_reset (K.map mk) ⟨114, n, []⟩ (by show (if aloneW (K.map mk) w_all then _ else namedC 114 (K.map mk)) = _; rw [w_alone hK, if_neg (by simp), w_named hK])
          rw [List.map_cons, this]; rfl
        · cases h
      · split at h
        · rename_i hk; subst hk; cases h; rfl
        · split at h
          · rename_i hk; subst hk; cases h; rfl
          · split at h
            · rename_i hk; subst hk; cases h; rfl
            · split at h
              · rename_i hk; subst hk; cases h; rfl
              · split at h
                · rename_i hk; subst hk; cases h; rfl
                · cases h
/-- Are two commands set alike? -/
def alikeB (a : UInt8) (m x : Bs) (b : UInt8) (n y : Bs) : Bool := a == b && ((!(a == 115 || a == 108)) || (m == n && x == y)) && (!(a == 114) || m == n)
theorem stat_apart {a b : UInt8} {m x n y s t : Bs} (h : statT a m x = some s) (h' : statT b n y = some t) : (s == t) = alikeB a m x b n y := by
  by_cases e : s = t
  · subst e
    have h1 := (stat_back h).symm.trans (stat_back h')
    have h1 := (Prod.mk.inj h1).1
    unfold backC at h1
    injection h1 with k1 k2 k3
    subst k1
    rw [beq_self_eq_true]
    unfold alikeB
    by_cases h115 : a = 115
    · subst h115; simp at k2 k3; simp [k2, k3]
    · by_cases h108 : a = 108
      · subst h108; simp at k2 k3; simp [k2, k3]
      · by_cases h114 : a = 114
        · subst h114; simp at k2; simp [k2]
        · simp [h115, h108, h114]
  · rw [beq_false_of_ne e]
    symm
    rw [← Bool.not_eq_true]
    intro hh
    apply e
    unfold alikeB at hh
    simp only [Bool.and_eq_true, beq_iff_eq, Bool.or_eq_true, Bool.not_eq_true', Bool.or_eq_false_iff, beq_eq_false_iff_ne] at hh
    obtain ⟨⟨rfl, h1⟩, h2⟩ := hh
    by_cases h115 : a = 115
    · subst h115
      rcases h1 with h1 | ⟨rfl, rfl⟩
      · exact absurd rfl h1.1
      · exact Option.some.inj (h.symm.trans h')
    · by_cases h108 : a = 108
      · subst h108
        rcases h1 with h1 | ⟨rfl, rfl⟩
        · exact absurd rfl h1.2
        · exact Option.some.inj (h.symm.trans h')
      · by_cases h114 : a = 114
        · subst h114
          rcases h2 with h2 | rfl
          · exact absurd rfl h2
          · exact Option.some.inj (h.symm.trans h')
        · unfold statT at h h'
          rw [if_neg h115, if_neg h108, if_neg h114] at h h'
          exact Option.some.inj (h.symm.trans h')
end Go.Proofs.YtpijolcklmdjbaaDoor
