/- What a setting is set to: mathematics. -/
import Derived.Test.YtpijolcklmdjbaaDoorPTransM
namespace Go.Proofs.YtpijolcklmdjbaaDoor
open Go.RowKit Go.Lib Go.WideShapes

/-- Digits. -/
def Digs (t : Bs) : Prop := t ≠ [] ∧ t.length ≤ 19 ∧ ∀ c ∈ t, dg c = true

abbrev w_x : Bs := [120]
def vTo : Bs := [115, 101, 116, 32, 120, 32, 116, 111, 32]
def vEq : Bs := [115, 101, 116, 32, 120, 32, 61, 32]

theorem v_to (r : Bs) : kts (vTo ++ r) = (kts r).map (fun K => (119, w_set) :: (119, w_x) :: (119, w_to) :: K) := by
  have hb : ∀ r, kts (32 :: r) = kts r := fun r => kts_blank 32 r (by decide)
  show kts (115 :: 101 :: 116 :: 32 :: 120 :: 32 :: 116 :: 111 :: 32 :: r) = _
  rw [show kts (115 :: 101 :: 116 :: 32 :: 120 :: 32 :: 116 :: 111 :: 32 :: r) = (kts (32 :: 120 :: 32 :: 116 :: 111 :: 32 :: r)).map ((119, w_set) :: ·) from kts_step rfl rfl,
    show kts (32 :: 120 :: 32 :: 116 :: 111 :: 32 :: r) = (kts (32 :: 116 :: 111 :: 32 :: r)).map ((119, w_x) :: ·) from kts_step rfl rfl,
    show kts (32 :: 116 :: 111 :: 32 :: r) = (kts (32 :: r)).map ((119, w_to) :: ·) from kts_step rfl rfl, hb, Option.map_map, Option.map_map]
  rfl
theorem v_eq (r : Bs) : kts (vEq ++ r) = (kts r).map (fun K => (119, w_set) :: (119, w_x) :: (111, [61]) :: K) := by
  have hb : ∀ r, kts (32 :: r) = kts r := fun r => kts_blank 32 r (by decide)
  show kts (115 :: 101 :: 116 :: 32 :: 120 :: 32 :: 61 :: 32 :: r) = _
  rw [show kts (115 :: 101 :: 116 :: 32 :: 120 :: 32 :: 61 :: 32 :: r) = (kts (32 :: 120 :: 32 :: 61 :: 32 :: r)).map ((119, w_set) :: ·) from kts_step rfl rfl,
    show kts (32 :: 120 :: 32 :: 61 :: 32 :: r) = (kts (32 :: 61 :: 32 :: r)).map ((119, w_x) :: ·) from kts_step rfl rfl,
    show kts (32 :: 61 :: 32 :: r) = (kts (32 :: r)).map ((111, [61]) :: ·) from kts_step rfl rfl, hb, Option.map_map, Option.map_map]
  rfl
theorem v_text (s r : Bs) (hr : r.head? ≠ some 39) : kts (quoted 39 s ++ r) = (kts r).map ((115, s) :: ·) := by
  have e : quoted 39 s ++ r = 39 :: (doubled 39 s ++ 39 :: r) := by unfold quoted; simp
  rw [e]
  exact kts_step (sk_first (by decide) (fun e => by cases e.1) (fun e => by cases e.1)) (token_text_read s r hr)
theorem v_digits {d : Bs} (h : Digs d) : kts d = some [(110, d)] := by
  obtain ⟨h0, _, hd⟩ := h
  cases d with
  | nil => exact absurd rfl h0
  | cons c r =>
    have hc := hd c (List.mem_cons_self ..)
    obtain ⟨_, _, _, _, _, h45, h47, _, hbl, _⟩ := dg_facts hc
    have hn : nl (c :: r) = (c :: r).length := by
      have := nl_run (c :: r) [] (fun x hx => .inl (hd x hx))
      rw [List.append_nil] at this
      rw [this]; rfl
    have ht := tok_num (c := c) (r := r) hc
    rw [hn, List.take_length, List.drop_length] at ht
    rw [kts_step (sk_first hbl (fun e => h45 e.1) (fun e => h47 e.1)) ht]
    rfl
theorem v_minus {d : Bs} (h : Digs d) : kts (45 :: d) = some [(111, [45]), (110, d)] := by
  have hd := v_digits h
  obtain ⟨h0, _, hdd⟩ := h
  cases d with
  | nil => exact absurd rfl h0
  | cons c r =>
    have hc := hdd c (List.mem_cons_self ..)
    obtain ⟨_, _, _, _, _, h45, h47, _, hbl, _⟩ := dg_facts hc
    have ht : token (45 :: c :: r) = some (111, [45], c :: r) := tok_sign (by decide) (by decide) (by decide) (by decide) (fun e => by cases e.1) (by decide)
    rw [kts_step (sk_first (x := 45) (r := c :: r) (by decide) (fun e => h45 (Option.some.inj (show some c = some 45 from e.2))) (fun e => by cases e.1)) ht, hd]
    rfl

theorem digs_zero {d : Bs} (h : Digs d) : (0 : UInt8) ∉ d := fun hm => by have := h.2.2 0 hm; cases this

theorem v_a (s : Bs) (h0 : (0 : UInt8) ∉ quoted 39 s) (hl : (vTo ++ quoted 39 s).length ≤ 2000) : parsedC (vTo ++ quoted 39 s) = (⟨115, w_x, s⟩, 0) := by
  have hK : kts (vTo ++ quoted 39 s) = some [(119, w_set), (119, w_x), (119, w_to), (115, s)] := by
    rw [v_to, show quoted 39 s = quoted 39 s ++ [] by rw [List.append_nil], v_text s [] (by simp)]; rfl
  rw [parsed_free hl (fun h => by
    rcases List.mem_append.1 h with h | h
    · revert h; decide
    · exact h0 h) hK (by simp) (by simp [sgn])]
  rfl
theorem v_b {d : Bs} (h : Digs d) : parsedC (vEq ++ d) = (⟨115, w_x, d⟩, 0) := by
  have hK : kts (vEq ++ d) = some [(119, w_set), (119, w_x), (111, [61]), (110, d)] := by
    rw [v_eq, v_digits h]; rfl
  rw [parsed_free (by have := h.2.1; rw [List.length_append]; show 8 + d.length ≤ _; omega) (fun hm => by
    rcases List.mem_append.1 hm with hm | hm
    · revert hm; decide
    · exact digs_zero h hm) hK (by simp) (by simp [sgn])]
  rfl
theorem v_bm {d : Bs} (h : Digs d) : parsedC (vEq ++ 45 :: d) = (⟨115, w_x, 45 :: d⟩, 0) := by
  have hK : kts (vEq ++ 45 :: d) = some [(119, w_set), (119, w_x), (111, [61]), (111, [45]), (110, d)] := by
    rw [v_eq, v_minus h]; rfl
  rw [parsed_free (by have := h.2.1; rw [List.length_append, List.length_cons]; show 8 + (d.length + 1) ≤ _; omega) (fun hm => by
    rcases List.mem_append.1 hm with hm | hm
    · revert hm; decide
    · rcases List.mem_cons.1 hm with hm | hm
      · cases hm
      · exact digs_zero h hm) hK (by simp) (by simp [sgn])]
  rfl
theorem v_c : parsedC [115, 101, 116, 32, 108, 111, 99, 97, 108, 32, 120, 46, 121, 32, 61, 32, 79, 110] = (⟨108, [120, 46, 121], [111, 110]⟩, 0) := by rfl
theorem v_h (s : Bs) {d : Bs} (h : Digs d) (h0 : (0 : UInt8) ∉ quoted 39 s) (hl : (vEq ++ (quoted 39 s ++ 32 :: d)).length ≤ 2000) : parsedC (vEq ++ (quoted 39 s ++ 32 :: d)) = (⟨117, w_set, []⟩, 0) := by
  have hK : kts (vEq ++ (quoted 39 s ++ 32 :: d)) = some [(119, w_set), (119, w_x), (111, [61]), (115, s), (110, d)] := by
    rw [v_eq, v_text s _ (by simp), kts_blank 32 _ (by decide), v_digits h]; rfl
  rw [parsed_free hl (fun hm => by
    rcases List.mem_append.1 hm with hm | hm
    · revert hm; decide
    · rcases List.mem_append.1 hm with hm | hm
      · exact h0 hm
      · rcases List.mem_cons.1 hm with hm | hm
        · cases hm
        · exact digs_zero h hm) hK (by simp) (by simp [sgn])]
  rfl
theorem v_comma (r : Bs) : kts (44 :: r) = (kts r).map ((111, [44]) :: ·) :=
  kts_step (sk_first (by decide) (fun e => by cases e.1) (fun e => by cases e.1)) (token_sign_read 44 r (by decide) (by decide) (by decide) (by decide) (by simp [dg]) (by decide))
theorem v_j (s : Bs) (h0 : (0 : UInt8) ∉ quoted 39 s) (hl : (vEq ++ (quoted 39 s ++ 44 :: 32 :: quoted 39 s)).length ≤ 2000) : parsedC (vEq ++ (quoted 39 s ++ 44 :: 32 :: quoted 39 s)) = (⟨117, w_set, []⟩, 0) := by
  have hK : kts (vEq ++ (quoted 39 s ++ 44 :: 32 :: quoted 39 s)) = some [(119, w_set), (119, w_x), (111, [61]), (115, s), (111, [44]), (115, s)] := by
    have h1 : kts (quoted 39 s) = some [(115, s)] := by rw [show quoted 39 s = quoted 39 s ++ [] by rw [List.append_nil], v_text s [] (by simp)]; rfl
    rw [v_eq, v_text s _ (by simp), v_comma, kts_blank 32 _ (by decide), h1]; rfl
  rw [parsed_free hl (fun hm => by
    rcases List.mem_append.1 hm with hm | hm
    · revert hm; decide
    · rcases List.mem_append.1 hm with hm | hm
      · exact h0 hm
      · rcases List.mem_cons.1 hm with hm | hm
        · cases hm
        · rcases List.mem_cons.1 hm with hm | hm
          · cases hm
          · exact h0 hm) hK (by simp) (by simp [sgn])]
  rfl
end Go.Proofs.YtpijolcklmdjbaaDoor
