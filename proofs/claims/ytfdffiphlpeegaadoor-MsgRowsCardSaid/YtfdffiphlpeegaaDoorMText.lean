/- Texts, written. -/
import Derived.Test.YtfdffiphlpeegaaDoorMNum
namespace Go.Proofs.YtfdffiphlpeegaaDoor
open Go.RowKit Go.Lib Go.WideShapes

theorem ib_in : ∀ l : Bs, ((0 : UInt8) ∈ l → 0 ≤ Lib.indexByte l 0) ∧ ((0 : UInt8) ∉ l → Lib.indexByte l 0 = -1) := by
  intro l
  induction l with
  | nil => exact ⟨(fun h => by cases h), (fun _ => rfl)⟩
  | cons b l ih =>
    have e : Lib.indexByte (b :: l) 0 = if b == 0 then 0 else if Lib.indexByte l 0 == -1 then -1 else Lib.indexByte l 0 + 1 := rfl
    rw [e]
    by_cases hb : b = 0
    · subst hb
      exact ⟨(fun _ => Int.le_refl _), (fun h => absurd (List.mem_cons_self ..) h)⟩
    · have hb' : (b == 0) = false := by simpa using hb
      rw [hb', if_neg (by simp)]
      constructor
      · intro h
        have hl : (0 : UInt8) ∈ l := by
          rcases List.mem_cons.1 h with h | h
          · exact absurd h.symm hb
          · exact h
        have := ih.1 hl
        have hne : (Lib.indexByte l 0 == -1) = false := by simp; omega
        rw [hne, if_neg (by simp)]; omega
      · intro h
        rw [ih.2 (fun hl => h (List.mem_cons_of_mem _ hl))]; rfl

theorem index_zero (t : Bs) (w : World) : Calls Tryd.prog 62 #[.string ⟨t.toArray⟩, .int .u8 0] w fun e w' => ∃ i : Int, e = .returned (.int .i64 i) ∧ (((0 : UInt8) ∈ t ∧ 0 ≤ i) ∨ ((0 : UInt8) ∉ t ∧ i < 0)) ∧ w = w' := by
  refine (Tryd.strings_IndexByte ⟨t.toArray⟩ 0 w).mono ?_
  rintro e w' ⟨rfl, rfl⟩
  refine ⟨_, rfl, ?_, rfl⟩
  by_cases h : (0 : UInt8) ∈ t
  · exact .inl ⟨h, (ib_in t).1 h⟩
  · refine .inr ⟨h, ?_⟩
    have := (ib_in t).2 h
    show Lib.indexByte t 0 < 0
    omega

theorem text_size {s : WS} {t : Bs} {ts : List Bs} (h : s.T = t :: ts) : s.B.length + t.length + 19 ≤ room s := by
  unfold room
  rw [h, List.map_cons, List.sum_cons]
  omega

set_option maxRecDepth 100000 in
set_option maxHeartbeats 8000000 in
theorem text_any (w0 w : World) (s : WS) (hr : room s ≤ 900000) (h : IsW w0 w s) :
    Calls Tryd.prog 53 #[.pointer (some ⟨w0.heap.size, 0, none⟩)] w (WOut w0 (wText s)) := by
  have HN := Lib.hid (nexttext_any w0 w s h)
  obtain ⟨T, N, B⟩ := s
  clear h
  cases T with
  | nil =>
    rw [show wText ⟨[], N, B⟩ = none from rfl]
    go_enter Tryd.func53, Tryd.ntmps53
    go_wp2_with fail
    refine HN.out.mono ?_; rintro e w1 (⟨t, ts, hT, _⟩ | ⟨_, rfl, hB⟩)
    · cases hT
    · go_wp2_with fail
      exact ⟨rfl, .inr ⟨rfl, rfl, hB⟩⟩
  | cons t ts =>
    have hsz := text_size (s := ⟨t :: ts, N, B⟩) (t := t) (ts := ts) rfl
    have hsz : B.length + t.length + 19 ≤ room ⟨t :: ts, N, B⟩ := hsz
    have hBl : B.length ≤ 900000 := by omega
    have htl : t.length ≤ 900000 := by omega
    have hBT : B.length + t.length ≤ 900000 := by omega
    clear hsz hr
    by_cases h0 : (0 : UInt8) ∈ t
    · rw [show wText ⟨t :: ts, N, B⟩ = none by unfold wText; simp only; rw [if_pos h0]]
      have H0 := Lib.hid h0
      clear h0
      go_enter Tryd.func53, Tryd.ntmps53
      go_wp2_with fail
      refine HN.out.mono ?_; rintro e w1 (⟨t', ts', hT, rfl, hW⟩ | ⟨hT, _⟩)
      · obtain ⟨rfl, rfl⟩ := List.cons.inj hT
        obtain ⟨_, _, _, hW⟩ := hW
        have HB := Lib.hid hW.below
        clear hT hW HN
        go_wp2_with fail
        refine (index_zero t w1).mono ?_; rintro e w2 ⟨i, rfl, ⟨_, hi⟩ | ⟨h, _⟩, rfl⟩
        · have hd : decide (i < 0) = false := by simp; omega
          go_wp2_with fail
          refine (demand_no _).mono ?_; rintro e w3 ⟨rfl, rfl⟩
          go_wp2_with fail
          exact ⟨rfl, .inr ⟨rfl, rfl, HB.out⟩⟩
        · exact absurd H0.out h
      · cases hT
    · rw [show wText ⟨t :: ts, N, B⟩ = some ⟨ts, N, B ++ (t ++ [0])⟩ by unfold wText; simp only; rw [if_neg h0]]
      have H0 := Lib.hid h0
      clear h0
      go_enter Tryd.func53, Tryd.ntmps53
      go_wp2_with fail
      refine HN.out.mono ?_; rintro e w1 (⟨t', ts', hT, rfl, hW⟩ | ⟨hT, _⟩)
      · obtain ⟨rfl, rfl⟩ := List.cons.inj hT
        obtain ⟨tv, nv, bv, hW⟩ := hW
        have HW := Lib.hid hW
        clear hT hW HN
        go_wp2_with fail
        refine (index_zero t w1).mono ?_; rintro e w2 ⟨i, rfl, ⟨h, _⟩ | ⟨_, hi⟩, rfl⟩
        · exact absurd h H0.out
        · have hd : decide (i < 0) = true := by simp; omega
          go_wp2_with fail
          refine (demand_ok _).mono ?_; rintro e w3 ⟨rfl, rfl⟩
          obtain ⟨a, c, rfl⟩ := HW.out.room_blocks
          have c2 := HW.out.c2
          have f2 := HW.out.f2
          obtain ⟨a', c', w4, hrun, e2, g2, hz1, hP⟩ := put_text ⟨t.toArray⟩ (by show B.length ≤ _; omega) (by rw [bsize]; omega) HW.out
          have HP := Lib.hid hP
          have HRUN := Lib.hid hrun
          clear hP hrun hd
          go_wp2_with (at_builtin; refine wpList_append_eq rfl (.tmp 13) (.tmp 14) 69 9 rfl _ _ rfl rfl _ _ HRUN.out ?_)
          clear c2 f2
          go_wp2_with fail
          have hZ := zero_any w0 _ ⟨ts, N, B ++ t⟩ (by show (B ++ t).length ≤ _; rw [List.length_append]; omega) ⟨_, _, _, HP.out⟩
          refine hZ.mono ?_; rintro e w5 (⟨s', hs', rfl, hW5⟩ | ⟨hs', _⟩)
          · obtain rfl := Option.some.inj hs'
            go_wp2_with fail
            go_end0
            exact .inl ⟨_, rfl, rfl, by rw [← List.append_assoc]; exact hW5⟩
          · cases hs'
      · cases hT
end Go.Proofs.YtfdffiphlpeegaaDoor
