/- A whole number, as the law writes it. -/
import Derived.Test.YtdlhmcogpmdonaaGreatDoorRTextsB
namespace Go.Proofs.YtdlhmcogpmdonaaGreatDoor
open Go.RowKit Go.Lib Go.WideShapes

theorem dec_len {u : Nat} (h : u < 1000000) : (decDigits u).length ≤ 6 := by
  rcases Nat.eq_zero_or_pos u with e | e
  · rw [e, decDigits_lt (by decide)]; decide
  · exact (pad_dec 6 u e h).2
/-- How far a number was written. -/
def WSt (u0 u : Nat) (l : Bs) : Prop := (l = [] ∧ u = u0) ∨ (l ≠ [] ∧ 0 < u ∧ decDigits u ++ l = decDigits u0) ∨ (l ≠ [] ∧ u = 0 ∧ l = decDigits u0)
theorem WSt.next {u0 u : Nat} {l : Bs} (h : WSt u0 u l) (hc : 0 < u ∨ l = []) : WSt u0 (u / 10) (UInt8.ofNat (48 + u % 10) :: l) := by
  have hd : decDigits u ++ l = decDigits u0 := by
    rcases h with ⟨rfl, rfl⟩ | ⟨_, _, h⟩ | ⟨hl, rfl, _⟩
    · rw [List.append_nil]
    · exact h
    · exact absurd hc (fun hc => hc.elim (by decide) hl)
  by_cases h10 : u < 10
  · rw [decDigits_lt h10] at hd
    refine .inr (.inr ⟨by simp, Nat.div_eq_of_lt h10, ?_⟩)
    rw [Nat.mod_eq_of_lt h10]; exact hd
  · rw [decDigits_ge (by omega), List.append_assoc] at hd
    exact .inr (.inl ⟨by simp, by omega, hd⟩)
theorem WSt.len {u0 u : Nat} {l : Bs} (h : WSt u0 u l) (h0 : u0 < 1000000) : l.length ≤ 6 ∧ u < 1000000 := by
  have hl := dec_len h0
  rcases h with ⟨rfl, rfl⟩ | ⟨_, hu, h⟩ | ⟨_, rfl, rfl⟩
  · exact ⟨by decide, h0⟩
  · have h2 := congrArg List.length h
    rw [List.length_append] at h2
    refine ⟨by omega, ?_⟩
    rcases Nat.lt_or_ge u 1000000 with e | e
    · exact e
    · have hv := congrArg val h
      rw [val_append, val_decDigits, val_decDigits] at hv
      have : u ≤ u * 10 ^ l.length := Nat.le_mul_of_pos_right _ (Nat.pow_pos (by decide))
      omega
  · exact ⟨hl, by decide⟩
set_option maxRecDepth 100000 in
set_option maxHeartbeats 8000000 in
theorem whole_pos (u0 : Nat) (Z : ByteArray) (w : World) (h0 : u0 < 1000000) (hZ : Z.size ≤ 3) :
    Calls Tryz.prog 19 #[.int .i64 u0, .string Z] w fun e w' => e = .returned (.string ⟨(bytes Z ++ decDigits u0).toArray⟩) ∧ w = w' := by
  obtain ⟨R, hR⟩ : ∃ R : ByteArray, R = ⟨(bytes Z ++ decDigits u0).toArray⟩ := ⟨_, rfl⟩
  rw [← hR]
  have HR := Lib.hid hR
  clear hR
  go_enter Tryz.func19, Tryz.ntmps19
  go_wp2_with fail
  go_loopg [0, 5] (u0 + 1) (fun g x y wr => ∃ (u : Nat) (S : ByteArray), x = .int .i64 u ∧ y = .string S ∧ g = u + (if bytes S = [] then 1 else 0) ∧ wr = w ∧ WSt u0 u (bytes S))
  case atStart => exact ⟨u0, _, rfl, rfl, rfl, rfl, .inl ⟨rfl, rfl⟩⟩
  case round =>
    obtain ⟨u, S, rfl, rfl, hg, rfl, hS⟩ := hrel
    have HGG := Lib.hid hg
    have HS := Lib.hid hS
    obtain ⟨hl6, hu6⟩ := hS.len h0
    rw [bytes_len] at hl6
    clear hg hS
    by_cases hc : 0 < u ∨ bytes S = []
    · obtain ⟨d, hd⟩ : ∃ d, d = u % 10 := ⟨_, rfl⟩
      have hdl : d < 10 := by omega
      have hm : (u : Int) % 10 = (d : Nat) := by omega
      have hm0 : (d : Int) + 1 ≤ 10 := by omega
      have hbs : bytes (tenS.extract d (d + 1) ++ S) = UInt8.ofNat (48 + u % 10) :: bytes S := by rw [bytes_cat, ten_cut d hdl, hd]; rfl
      have HN := Lib.hid (show WSt u0 (u / 10) (bytes (tenS.extract d (d + 1) ++ S)) by rw [hbs]; exact HS.out.next hc)
      have HB := Lib.hid hbs
      have HM := Lib.hid (show u / 10 < u + (if bytes S = [] then 1 else 0) by
        rcases hc with h | h
        · split <;> omega
        · rw [if_pos h]; omega)
      by_cases hu : 0 < u
      · have h1 : (0 : Int) < u := by omega
        clear hd hbs hc hu
        go_wp2_with fail
        go_roundg (u / 10)
        case measure => rw [HGG.out]; exact HM.out
        case rel => exact ⟨u / 10, _, by go_num, rfl, by rw [HB.out, if_neg (by simp)]; rfl, rfl, HN.out⟩
      · have hu0 : u = 0 := by omega
        have hS0 : bytes S = [] := hc.resolve_left hu
        subst hu0
        have hd0 : d = 0 := by rw [hd]
        subst hd0
        have h2 : S.toList.isEmpty = true := by rw [Lib.toList_data]; show (bytes S).isEmpty = true; rw [hS0]; rfl
        clear hd hbs hc hu hm hm0 hS0
        go_wp2_with fail
        go_roundg (0 / 10)
        case measure => rw [HGG.out]; exact HM.out
        case rel => exact ⟨0 / 10, _, by go_num, rfl, by rw [HB.out, if_neg (by simp)], rfl, HN.out⟩
    · have hu : u = 0 := by omega
      subst hu
      have hne : bytes S ≠ [] := fun h => hc (.inr h)
      have hemp : S.toList.isEmpty = false := by
        rw [Lib.toList_data]; show (bytes S).isEmpty = false
        cases h : bytes S with
        | nil => exact absurd h hne
        | cons _ _ => rfl
      have HE := Lib.hid (show Z ++ S = R from str_eq (by
        rw [bytes_cat, HR.out, bytes_mk]
        rcases HS.out with ⟨h, _⟩ | ⟨_, h, _⟩ | ⟨_, _, h⟩
        · exact absurd h hne
        · exact absurd h (by decide)
        · rw [h]))
      clear hc hne
      go_wp2_with fail
      go_ret
      exact ⟨by rw [← HE.out]; rfl, rfl⟩
/-- A number's sign. -/
def wholeT (x : Int) (z : Bs) : Bs := (if x < 0 then [45] else []) ++ (z ++ decDigits x.natAbs)
set_option maxHeartbeats 4000000 in
theorem whole_any (x : Int) (Z : ByteArray) (w : World) (h0 : -1000000 < x ∧ x < 1000000) (hZ : Z.size ≤ 3) :
    Calls Tryz.prog 19 #[.int .i64 x, .string Z] w fun e w' => e = .returned (.string ⟨(wholeT x (bytes Z)).toArray⟩) ∧ w = w' := by
  obtain ⟨h1, h2⟩ := h0
  by_cases h : x < 0
  · have HW := Lib.hid (whole_pos x.natAbs Z w (by omega) hZ)
    have hx : -x = (x.natAbs : Int) := by omega
    have hlen : (bytes Z ++ decDigits x.natAbs).length ≤ 9 := by
      have := dec_len (u := x.natAbs) (by omega)
      rw [List.length_append, bytes_len]; omega
    have HE := Lib.hid (show ({ data := #[45] } : ByteArray) ++ ⟨(bytes Z ++ decDigits x.natAbs).toArray⟩ = ⟨(wholeT x (bytes Z)).toArray⟩ from str_eq (by
      rw [bytes_cat, bytes_mk, bytes_mk]; unfold wholeT; rw [if_pos h]; first | done | rfl))
    have hrs : (⟨(bytes Z ++ decDigits x.natAbs).toArray⟩ : ByteArray).size ≤ 9 := by rw [size_mk]; exact hlen
    generalize (⟨(bytes Z ++ decDigits x.natAbs).toArray⟩ : ByteArray) = T at HW HE hrs
    generalize (⟨(wholeT x (bytes Z)).toArray⟩ : ByteArray) = R at HE ⊢
    generalize x.natAbs = u at HW hx
    clear hlen
    go_enter Tryz.func19, Tryz.ntmps19
    go_wp2_with fail
    refine HW.out.mono ?_; rintro e w1 ⟨rfl, rfl⟩
    go_wp2_with fail
    go_ret
    exact ⟨by rw [← HE.out]; rfl, rfl⟩
  · have hx : x = (x.natAbs : Int) := by omega
    have hW := whole_pos x.natAbs Z w (by omega) hZ
    rw [← hx] at hW
    have : wholeT x (bytes Z) = bytes Z ++ decDigits x.natAbs := by unfold wholeT; rw [if_neg h]; rfl
    rw [this]; exact hW
end Go.Proofs.YtdlhmcogpmdonaaGreatDoor
