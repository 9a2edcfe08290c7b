/- A whole number, as the law writes it; the chapter's example. -/
import Derived.Test.YtaalopiegabghaaGreatDoorVOf
namespace Go.Proofs.YtaalopiegabghaaGreatDoor
open Go.RowKit Go.Lib Go.WideShapes

theorem bytes_cat (a b : ByteArray) : bytes (a ++ b) = bytes a ++ bytes b := by
  show (a ++ b).data.toList = a.data.toList ++ b.data.toList
  simp [ByteArray.data_append]
abbrev tenS : ByteArray := { data := #[48, 49, 50, 51, 52, 53, 54, 55, 56, 57] }
theorem ten_cut (d : Nat) (h : d < 10) : bytes (tenS.extract d (d + 1)) = [UInt8.ofNat (48 + d)] := by
  have H : ∀ d, d < 10 → bytes (tenS.extract d (d + 1)) = [UInt8.ofNat (48 + d)] := by decide
  exact H d h
theorem dec_len {u : Nat} (h : u < 1000000) : (decDigits u).length ≤ 6 := by
  rcases Nat.eq_zero_or_pos u with e | e
  · rw [e, decDigits_lt (by decide)]; decide
  · exact (pad_dec 6 u e h).2
/-- How far a number was written. -/
def WSt (u0 u : Nat) (l : Bs) : Prop := (l = [] ∧ u = u0) ∨ (l ≠ [] ∧ 0 < u ∧ decDigits u ++ l = decDigits u0) ∨ (l ≠ [] ∧ u = 0 ∧ l = decDigits u0)
theorem WSt.next {u0 u : Nat} {l : Bs} (h : WSt u0 u l) (hc : 0 < u ∨ l = []) : WSt u0 (u / 10) (UInt8.ofNat (48 + u % 10) :: l) := by
  have hd : decDigits u ++ l = decDigits u0 := by
    rcases h with ⟨rfl, rfl⟩ | ⟨_, _, h⟩ | ⟨hl, rfl, _⟩
    · rw [List.append_nil]
    · exact h
    · exact absurd hc (fun hc => hc.elim (by decide) hl)
  by_cases h10 : u < 10
  · rw [decDigits_lt h10] at hd
    refine .inr (.inr ⟨by simp, Nat.div_eq_of_lt h10, ?_⟩)
    rw [Nat.mod_eq_of_lt h10]; exact hd
  · rw [decDigits_ge (by omega), List.append_assoc] at hd
    exact .inr (.inl ⟨by simp, by omega, hd⟩)
theorem WSt.len {u0 u : Nat} {l : Bs} (h : WSt u0 u l) (h0 : u0 < 1000000) : l.length ≤ 6 ∧ u < 1000000 := by
  have hl := dec_len h0
  rcases h with ⟨rfl, rfl⟩ | ⟨_, hu, h⟩ | ⟨_, rfl, rfl⟩
  · exact ⟨by decide, h0⟩
  · have h2 := congrArg List.length h
    rw [List.length_append] at h2
    refine ⟨by omega, ?_⟩
    rcases Nat.lt_or_ge u 1000000 with e | e
    · exact e
    · have hv := congrArg val h
      rw [val_append, val_decDigits, val_decDigits] at hv
      have : u ≤ u * 10 ^ l.length := Nat.le_mul_of_pos_right _ (Nat.pow_pos (by decide))
      omega
  · exact ⟨hl, by decide⟩
set_option maxRecDepth 100000 in
set_option maxHeartbeats 8000000 in
theorem dec_pos (u0 : Nat) (w : World) (h0 : u0 < 1000000) :
    Calls Tryz.prog 6 #[.int .i64 u0] w fun e w' => e = .returned (.string ⟨(decDigits u0).toArray⟩) ∧ w = w' := by
  obtain ⟨R, hR⟩ : ∃ R : ByteArray, R = ⟨(decDigits u0).toArray⟩ := ⟨_, rfl⟩
  rw [← hR]
  have HR := Lib.hid hR
  clear hR
  go_enter Tryz.func6, Tryz.ntmps6
  go_wp2_with fail
  go_loopg [0, 3] (u0 + 1) (fun g x y wr => ∃ (u : Nat) (S : ByteArray), x = .int .i64 u ∧ y = .string S ∧ g = u + (if bytes S = [] then 1 else 0) ∧ wr = w ∧ WSt u0 u (bytes S))
  case atStart => exact ⟨u0, _, rfl, rfl, rfl, rfl, .inl ⟨rfl, rfl⟩⟩
  case round =>
    obtain ⟨u, S, rfl, rfl, hg, rfl, hS⟩ := hrel
    have HGG := Lib.hid hg
    have HS := Lib.hid hS
    obtain ⟨hl6, hu6⟩ := hS.len h0
    rw [bytes_len] at hl6
    clear hg hS
    by_cases hc : 0 < u ∨ bytes S = []
    · obtain ⟨d, hd⟩ : ∃ d, d = u % 10 := ⟨_, rfl⟩
      have hdl : d < 10 := by omega
      have hm : (u : Int) % 10 = (d : Nat) := by omega
      have hm0 : (d : Int) + 1 ≤ 10 := by omega
      have hbs : bytes (tenS.extract d (d + 1) ++ S) = UInt8.ofNat (48 + u % 10) :: bytes S := by rw [bytes_cat, ten_cut d hdl, hd]; rfl
      have HN := Lib.hid (show WSt u0 (u / 10) (bytes (tenS.extract d (d + 1) ++ S)) by rw [hbs]; exact HS.out.next hc)
      have HB := Lib.hid hbs
      have HM := Lib.hid (show u / 10 < u + (if bytes S = [] then 1 else 0) by
        rcases hc with h | h
        · split <;> omega
        · rw [if_pos h]; omega)
      by_cases hu : 0 < u
      · have h1 : (0 : Int) < u := by omega
        clear hd hbs hc hu
        go_wp2_with fail
        go_roundg (u / 10)
        case measure => rw [HGG.out]; exact HM.out
        case rel => exact ⟨u / 10, _, by go_num, rfl, by rw [HB.out, if_neg (by simp)]; rfl, rfl, HN.out⟩
      · have hu0 : u = 0 := by omega
        have hS0 : bytes S = [] := hc.resolve_left hu
        subst hu0
        have hd0 : d = 0 := by rw [hd]
        subst hd0
        have h2 : S.toList.isEmpty = true := by rw [Lib.toList_data]; show (bytes S).isEmpty = true; rw [hS0]; rfl
        clear hd hbs hc hu hm hm0 hS0
        go_wp2_with fail
        go_roundg (0 / 10)
        case measure => rw [HGG.out]; exact HM.out
        case rel => exact ⟨0 / 10, _, by go_num, rfl, by rw [HB.out, if_neg (by simp)], rfl, HN.out⟩
    · have hu : u = 0 := by omega
      subst hu
      have hne : bytes S ≠ [] := fun h => hc (.inr h)
      have hemp : S.toList.isEmpty = false := by
        rw [Lib.toList_data]; show (bytes S).isEmpty = false
        cases h : bytes S with
        | nil => exact absurd h hne
        | cons _ _ => rfl
      have HE := Lib.hid (show S = R from str_eq (by
        rw [HR.out, bytes_mk]
        rcases HS.out with ⟨h, _⟩ | ⟨_, h, _⟩ | ⟨_, _, h⟩
        · exact absurd h hne
        · exact absurd h (by decide)
        · exact h))
      clear hc hne
      go_wp2_with fail
      go_ret
      exact ⟨by rw [← HE.out]; rfl, rfl⟩
set_option maxHeartbeats 4000000 in
theorem dec_any (x : Int) (w : World) (h0 : -1000000 < x ∧ x < 1000000) :
    Calls Tryz.prog 6 #[.int .i64 x] w fun e w' => e = .returned (.string ⟨(itoa x).toArray⟩) ∧ w = w' := by
  obtain ⟨h1, h2⟩ := h0
  by_cases h : x < 0
  · have HW := Lib.hid (dec_pos x.natAbs w (by omega))
    have hx : -x = (x.natAbs : Int) := by omega
    have HE := Lib.hid (show ({ data := #[45] } : ByteArray) ++ ⟨(decDigits x.natAbs).toArray⟩ = ⟨(itoa x).toArray⟩ from str_eq (by
      rw [bytes_cat, bytes_mk, bytes_mk, itoa_eq, if_pos h]; first | done | rfl))
    have hrs : (⟨(decDigits x.natAbs).toArray⟩ : ByteArray).size ≤ 9 := by rw [size_mk]; have := dec_len (u := x.natAbs) (by omega); omega
    generalize (⟨(decDigits x.natAbs).toArray⟩ : ByteArray) = T at HW HE hrs
    generalize (⟨(itoa x).toArray⟩ : ByteArray) = R at HE ⊢
    generalize x.natAbs = u at HW hx
    go_enter Tryz.func6, Tryz.ntmps6
    go_wp2_with fail
    refine HW.out.mono ?_; rintro e w1 ⟨rfl, rfl⟩
    go_wp2_with fail
    go_ret
    exact ⟨by rw [← HE.out]; rfl, rfl⟩
  · have hx : x = (x.natAbs : Int) := by omega
    have hW := dec_pos x.natAbs w (by omega)
    rw [← hx] at hW
    have : itoa x = decDigits x.natAbs := by rw [itoa_eq, if_neg h]; rfl
    rw [this]; exact hW
set_option maxHeartbeats 4000000 in
theorem vshown_any (w : World) (hT : Tabs w) (hw : 1 ≤ w.heap.size) : Calls Tryz.prog 5 #[] w fun e w' => e = .returned (.bool true) ∧ Below w.heap.size w w' := by
  have hl : bytes (⟨#[48]⟩ : ByteArray) = itoa 0 := by rw [itoa_eq, show (0 : Int).natAbs = 0 from rfl, decDigits_lt (by decide)]; rfl
  have hm : bytes (⟨#[49, 48, 48]⟩ : ByteArray) = itoa 100 := by rw [itoa_eq, show (100 : Int).natAbs = 100 from rfl, decDigits_ge (by decide), decDigits_ge (by decide), decDigits_lt (by decide)]; rfl
  have hc := vcanon_int ⟨#[48]⟩ ⟨#[49, 48, 48]⟩ 0 100 ⟨#[43, 48, 48, 55]⟩ w hT hw (by decide) (by decide) (by decide) (by decide) hl hm (by decide) (by decide)
  have hf : intF (bytes (⟨#[48]⟩ : ByteArray)) (bytes (⟨#[49, 48, 48]⟩ : ByteArray)) (bytes (⟨#[43, 48, 48, 55]⟩ : ByteArray)) = some [55] := by
    rw [intF_out, hl, hm, intB_itoa (by decide), intB_itoa (by decide), show intB (bytes (⟨#[43, 48, 48, 55]⟩ : ByteArray)) = some 7 from by decide +kernel]
    show (if (0 : Int) ≤ 7 ∧ (7 : Int) ≤ 100 then some (itoa 7) else none) = _
    rw [if_pos (by decide), itoa_eq, show (7 : Int).natAbs = 7 from rfl, decDigits_lt (by decide)]; rfl
  unfold CanonOut at hc
  rw [hf] at hc
  have HC := Lib.hid hc
  clear hc hf hl hm hT
  go_enter Tryz.func5, Tryz.ntmps5
  go_wp2_with fail
  refine HC.out.mono ?_; rintro e w1 ⟨rfl, hb⟩
  have H1 := Lib.hid hb
  clear hb
  go_wp2_with fail
  go_ret
  exact ⟨rfl, H1.out⟩
end Go.Proofs.YtaalopiegabghaaGreatDoor
