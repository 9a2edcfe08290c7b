/- Contracts and mathematics: MText, MItems, MRows, MPairs. -/
import Derived.Test.YtmofnkinclckoaaGreatDoorZ2
namespace Go.Proofs.YtmofnkinclckoaaGreatDoor
open Go.RowKit Go.Lib Go.WideShapes

theorem ib_in : ∀ l : Bs, ((0 : UInt8) ∈ l → 0 ≤ Lib.indexByte l 0) ∧ ((0 : UInt8) ∉ l → Lib.indexByte l 0 = -1) := by
  intro l
  induction l with
  | nil => exact ⟨(fun h => by cases h), (fun _ => rfl)⟩
  | cons b l ih =>
    have e : Lib.indexByte (b :: l) 0 = if b == 0 then 0 else if Lib.indexByte l 0 == -1 then -1 else Lib.indexByte l 0 + 1 := rfl
    rw [e]
    by_cases hb : b = 0
    · subst hb
      exact ⟨(fun _ => Int.le_refl _), (fun h => absurd (List.mem_cons_self ..) h)⟩
    · have hb' : (b == 0) = false := by simpa using hb
      rw [hb', if_neg (by simp)]
      constructor
      · intro h
        have hl : (0 : UInt8) ∈ l := by
          rcases List.mem_cons.1 h with h | h
          · exact absurd h.symm hb
          · exact h
        have := ih.1 hl
        have hne : (Lib.indexByte l 0 == -1) = false := by simp; omega
        rw [hne, if_neg (by simp)]; omega
      · intro h
        rw [ih.2 (fun hl => h (List.mem_cons_of_mem _ hl))]; rfl

theorem index_zero (t : Bs) (w : World) : Calls Tryz.prog 74 #[.string ⟨t.toArray⟩, .int .u8 0] w fun e w' => ∃ i : Int, e = .returned (.int .i64 i) ∧ (((0 : UInt8) ∈ t ∧ 0 ≤ i) ∨ ((0 : UInt8) ∉ t ∧ i < 0)) ∧ w = w' := by
  refine (Tryz.strings_IndexByte ⟨t.toArray⟩ 0 w).mono ?_
  rintro e w' ⟨rfl, rfl⟩
  refine ⟨_, rfl, ?_, rfl⟩
  by_cases h : (0 : UInt8) ∈ t
  · exact .inl ⟨h, (ib_in t).1 h⟩
  · refine .inr ⟨h, ?_⟩
    have := (ib_in t).2 h
    show Lib.indexByte t 0 < 0
    omega

theorem text_size {s : WS} {t : Bs} {ts : List Bs} (h : s.T = t :: ts) : s.B.length + t.length + 19 ≤ room s := by
  unfold room
  rw [h, List.map_cons, List.sum_cons]
  omega

set_option maxRecDepth 100000 in
set_option maxHeartbeats 8000000 in
theorem text_any (w0 w : World) (s : WS) (hr : room s ≤ 900000) (h : IsW w0 w s) :
    Calls Tryz.prog 65 #[.pointer (some ⟨w0.heap.size, 0, none⟩)] w (WOut w0 (wText s)) := by
  have HN := Lib.hid (nexttext_any w0 w s h)
  obtain ⟨T, N, B⟩ := s
  clear h
  cases T with
  | nil =>
    rw [show wText ⟨[], N, B⟩ = none from rfl]
    go_enter Tryz.func65, Tryz.ntmps65
    go_wp2_with fail
    refine HN.out.mono ?_; rintro e w1 (⟨t, ts, hT, _⟩ | ⟨_, rfl, hB⟩)
    · cases hT
    · go_wp2_with fail
      exact ⟨rfl, .inr ⟨rfl, rfl, hB⟩⟩
  | cons t ts =>
    have hsz := text_size (s := ⟨t :: ts, N, B⟩) (t := t) (ts := ts) rfl
    have hsz : B.length + t.length + 19 ≤ room ⟨t :: ts, N, B⟩ := hsz
    have hBl : B.length ≤ 900000 := by omega
    have htl : t.length ≤ 900000 := by omega
    have hBT : B.length + t.length ≤ 900000 := by omega
    clear hsz hr
    by_cases h0 : (0 : UInt8) ∈ t
    · rw [show wText ⟨t :: ts, N, B⟩ = none by unfold wText; simp only; rw [if_pos h0]]
      have H0 := Lib.hid h0
      clear h0
      go_enter Tryz.func65, Tryz.ntmps65
      go_wp2_with fail
      refine HN.out.mono ?_; rintro e w1 (⟨t', ts', hT, rfl, hW⟩ | ⟨hT, _⟩)
      · obtain ⟨rfl, rfl⟩ := List.cons.inj hT
        obtain ⟨_, _, _, hW⟩ := hW
        have HB := Lib.hid hW.below
        clear hT hW HN
        go_wp2_with fail
        refine (index_zero t w1).mono ?_; rintro e w2 ⟨i, rfl, ⟨_, hi⟩ | ⟨h, _⟩, rfl⟩
        · have hd : decide (i < 0) = false := by simp; omega
          go_wp2_with fail
          refine (demand_no _).mono ?_; rintro e w3 ⟨rfl, rfl⟩
          go_wp2_with fail
          exact ⟨rfl, .inr ⟨rfl, rfl, HB.out⟩⟩
        · exact absurd H0.out h
      · cases hT
    · rw [show wText ⟨t :: ts, N, B⟩ = some ⟨ts, N, B ++ (t ++ [0])⟩ by unfold wText; simp only; rw [if_neg h0]]
      have H0 := Lib.hid h0
      clear h0
      go_enter Tryz.func65, Tryz.ntmps65
      go_wp2_with fail
      refine HN.out.mono ?_; rintro e w1 (⟨t', ts', hT, rfl, hW⟩ | ⟨hT, _⟩)
      · obtain ⟨rfl, rfl⟩ := List.cons.inj hT
        obtain ⟨tv, nv, bv, hW⟩ := hW
        have HW := Lib.hid hW
        clear hT hW HN
        go_wp2_with fail
        refine (index_zero t w1).mono ?_; rintro e w2 ⟨i, rfl, ⟨h, _⟩ | ⟨_, hi⟩, rfl⟩
        · exact absurd h H0.out
        · have hd : decide (i < 0) = true := by simp; omega
          go_wp2_with fail
          refine (demand_ok _).mono ?_; rintro e w3 ⟨rfl, rfl⟩
          obtain ⟨a, c, rfl⟩ := HW.out.room_blocks
          have c2 := HW.out.c2
          have f2 := HW.out.f2
          obtain ⟨a', c', w4, hrun, e2, g2, hz1, hP⟩ := put_text ⟨t.toArray⟩ (by show B.length ≤ _; omega) (by rw [bsize]; omega) HW.out
          have HP := Lib.hid hP
          have HRUN := Lib.hid hrun
          clear hP hrun hd
          go_wp2_with (at_builtin; refine wpList_append_eq rfl (.tmp 13) (.tmp 14) 65 9 rfl _ _ rfl rfl _ _ HRUN.out ?_)
          clear c2 f2
          go_wp2_with fail
          have hZ := zero_any w0 _ ⟨ts, N, B ++ t⟩ (by show (B ++ t).length ≤ _; rw [List.length_append]; omega) ⟨_, _, _, HP.out⟩
          refine hZ.mono ?_; rintro e w5 (⟨s', hs', rfl, hW5⟩ | ⟨hs', _⟩)
          · obtain rfl := Option.some.inj hs'
            go_wp2_with fail
            go_end0
            exact .inl ⟨_, rfl, rfl, by rw [← List.append_assoc]; exact hW5⟩
          · cases hs'
      · cases hT
end Go.Proofs.YtmofnkinclckoaaGreatDoor

namespace Go.Proofs.YtmofnkinclckoaaGreatDoor
open Go.RowKit Go.Lib Go.WideShapes

theorem room_B (s : WS) : s.B.length ≤ room s := by unfold room; omega

set_option maxRecDepth 100000 in
set_option maxHeartbeats 4000000 in
theorem short_any (w0 w : World) (s : WS) (hr : room s ≤ 900000) (h : IsW w0 w s) :
    Calls Tryz.prog 71 #[.pointer (some ⟨w0.heap.size, 0, none⟩)] w (WOut w0 (wShort s)) := by
  have HN := Lib.hid (number_anyM w0 w s (-32768) 32767 2 (by omega) (by omega) (by omega) (Nat.le_trans (room_B s) hr) h)
  clear h hr
  unfold wShort
  generalize wNumber (-32768) 32767 2 s = r at HN ⊢
  go_enter Tryz.func71, Tryz.ntmps71
  go_wp2_with fail
  refine HN.out.mono ?_; rintro e w1 (⟨n, s1, rfl, rfl, hW⟩ | ⟨rfl, rfl, hB⟩)
  · have HW := Lib.hid hW
    clear hW
    go_wp2_with fail
    go_end0
    exact .inl ⟨_, rfl, rfl, HW.out⟩
  · go_wp2_with fail
    exact ⟨rfl, .inr ⟨rfl, rfl, hB⟩⟩
set_option maxRecDepth 100000 in
set_option maxHeartbeats 4000000 in
theorem long_any (w0 w : World) (s : WS) (hr : room s ≤ 900000) (h : IsW w0 w s) :
    Calls Tryz.prog 67 #[.pointer (some ⟨w0.heap.size, 0, none⟩)] w (WOut w0 (wLong s)) := by
  have HN := Lib.hid (number_anyM w0 w s (-2147483648) 2147483647 4 (by omega) (by omega) (by omega) (Nat.le_trans (room_B s) hr) h)
  clear h hr
  unfold wLong
  generalize wNumber (-2147483648) 2147483647 4 s = r at HN ⊢
  go_enter Tryz.func67, Tryz.ntmps67
  go_wp2_with fail
  refine HN.out.mono ?_; rintro e w1 (⟨n, s1, rfl, rfl, hW⟩ | ⟨rfl, rfl, hB⟩)
  · have HW := Lib.hid hW
    clear hW
    go_wp2_with fail
    go_end0
    exact .inl ⟨_, rfl, rfl, HW.out⟩
  · go_wp2_with fail
    exact ⟨rfl, .inr ⟨rfl, rfl, hB⟩⟩

set_option maxRecDepth 100000 in
set_option maxHeartbeats 4000000 in
theorem name_any (w0 w : World) (s : WS) (hr : room s ≤ 800000) (h : IsW w0 w s) :
    Calls Tryz.prog 73 #[.pointer (some ⟨w0.heap.size, 0, none⟩)] w (WOut w0 (wName s)) := by
  have HN := Lib.hid (text_any w0 w s (by omega) h)
  clear h
  unfold wName
  generalize hx : wText s = r at HN ⊢
  have HX := Lib.hid hx
  clear hx
  go_enter Tryz.func73, Tryz.ntmps73
  go_wp2_with fail
  refine HN.out.mono ?_; rintro e w1 (⟨s1, rfl, rfl, hW⟩ | ⟨rfl, rfl, hB⟩)
  · have HW := Lib.hid hW
    have hs1 : s1.B.length ≤ 800000 := by have := room_text HX.out; have := room_B s1; omega
    clear hW HX HN
    obtain ⟨T, N, B⟩ := s1
    have hs1 : B.length ≤ 800000 := hs1
    go_wp2_with fail
    go_loopg [4] 18 (fun g i wr => ∃ j : Nat, i = .int .i64 j ∧ j ≤ 18 ∧ g = 18 - j ∧ IsW w0 wr ⟨T, N, B ++ List.replicate j 0⟩)
    case atStart => exact ⟨0, rfl, by omega, rfl, by rw [List.replicate_zero, List.append_nil]; exact HW.out⟩
    case round =>
      obtain ⟨j, rfl, hj, hg, hWj⟩ := hrel
      have HWJ := Lib.hid hWj; have HG := Lib.hid hg
      clear hWj hg
      by_cases hlt : j < 18
      · have hlt' : (j : Int) < 18 := by omega
        go_wp2_with fail
        refine (zero_any w0 wr ⟨T, N, B ++ List.replicate j 0⟩ (by show (B ++ List.replicate j 0).length ≤ _; rw [List.length_append, List.length_replicate]; omega) HWJ.out).mono ?_; rintro e w2 (⟨s', hs', rfl, hW2⟩ | ⟨hs', _⟩)
        · obtain rfl := Option.some.inj hs'
          have HW2 := Lib.hid (show IsW w0 w2 ⟨T, N, B ++ List.replicate (j + 1) 0⟩ by rw [List.replicate_succ', ← List.append_assoc]; exact hW2)
          clear hW2 hs'
          go_wp2_with fail
          go_roundg (18 - (j + 1))
          case measure => have := HG.out; omega
          case rel => exact ⟨j + 1, by go_num, by omega, rfl, HW2.out⟩
        · cases hs'
      · obtain rfl : j = 18 := by omega
        go_wp2_with fail
        go_end0
        exact .inl ⟨_, rfl, rfl, HWJ.out⟩
  · go_wp2_with fail
    exact ⟨rfl, .inr ⟨rfl, rfl, hB⟩⟩

set_option maxRecDepth 100000 in
set_option maxHeartbeats 8000000 in
theorem value_anyM (w0 w : World) (s : WS) (hr : room s ≤ 800000) (h : IsW w0 w s) :
    Calls Tryz.prog 72 #[.pointer (some ⟨w0.heap.size, 0, none⟩)] w (WOut w0 (wValue s)) := by
  have HN := Lib.hid (number_anyM w0 w s (-1) 10000 4 (by omega) (by omega) (by omega) (Nat.le_trans (room_B s) (by omega)) h)
  clear h
  obtain ⟨R, hR⟩ : ∃ R, R = wValue s := ⟨_, rfl⟩
  rw [← hR]
  unfold wValue at hR
  generalize hx : wNumber (-1) 10000 4 s = r at HN hR
  have HX := Lib.hid hx; have HR := Lib.hid hR
  clear hx hR
  go_enter Tryz.func72, Tryz.ntmps72
  go_wp2_with fail
  refine HN.out.mono ?_; rintro e w1 (⟨n, s1, rfl, rfl, hW⟩ | ⟨rfl, rfl, hB⟩)
  · have HW := Lib.hid hW
    have hs1 : room s1 ≤ 800000 := Nat.le_trans (room_number HX.out (by omega)).1 hr
    have HR := Lib.hid (show R = if n < 0 then some s1 else wRaw n s1 from HR.out)
    clear hW HX HN
    by_cases hn : n < 0
    · have HR := Lib.hid (show R = some s1 by rw [HR.out, if_pos hn])
      go_wp2_with fail
      go_end0
      exact .inl ⟨_, HR.out, rfl, HW.out⟩
    · have HR := Lib.hid (show R = wRaw n s1 by rw [HR.out, if_neg hn])
      have hn' : 0 ≤ n := by omega
      have HNT := Lib.hid (nexttext_any w0 w1 s1 HW.out)
      obtain ⟨T, N, B⟩ := s1
      clear hn HW
      cases T with
      | nil =>
        go_wp2_with fail
        refine HNT.out.mono ?_; rintro e w2 (⟨t, ts, hT, _⟩ | ⟨_, rfl, hB⟩)
        · cases hT
        · go_wp2_with fail
          exact ⟨rfl, .inr ⟨HR.out, rfl, hB⟩⟩
      | cons t ts =>
        have hsz := text_size (s := ⟨t :: ts, N, B⟩) (t := t) (ts := ts) rfl
        have hBT : B.length + t.length ≤ 800000 := by have hsz : B.length + t.length + 19 ≤ room ⟨t :: ts, N, B⟩ := hsz; omega
        have HR := Lib.hid (show R = if (t.length : Int) = n then some ⟨ts, N, B ++ t⟩ else none from HR.out)
        clear hsz hs1
        go_wp2_with fail
        refine HNT.out.mono ?_; rintro e w2 (⟨t', ts', hT, rfl, hW⟩ | ⟨hT, _⟩)
        · obtain ⟨rfl, rfl⟩ := List.cons.inj hT
          obtain ⟨tv, nv, bv, hW⟩ := hW
          have HW := Lib.hid hW
          clear hT hW HNT
          by_cases hl : (t.length : Int) = n
          · have HR := Lib.hid (show R = some ⟨ts, N, B ++ t⟩ by rw [HR.out, if_pos hl])
            subst hl
            obtain ⟨a, c, rfl⟩ := HW.out.room_blocks
            have c2 := HW.out.c2
            have f2 := HW.out.f2
            obtain ⟨a', c', w4, hrun, e2, g2, hz1, hP⟩ := put_text ⟨t.toArray⟩ (by show B.length ≤ _; omega) (by rw [bsize]; omega) HW.out
            have HP := Lib.hid hP
            have HRUN := Lib.hid hrun
            have hbs := bsize t
            have HBS := Lib.hid hbs
            clear hP hrun hbs
            go_wp2_with fail
            refine (demand_ok _).mono ?_; rintro e w3 ⟨rfl, rfl⟩
            go_wp2_with (at_builtin; refine wpList_append_eq rfl (.tmp 19) (.tmp 20) 65 9 rfl _ _ rfl rfl _ _ HRUN.out ?_)
            clear c2 f2
            go_wp2_with fail
            go_end0
            exact .inl ⟨_, HR.out, rfl, _, _, _, HP.out⟩
          · have HR := Lib.hid (show R = none by rw [HR.out, if_neg hl])
            have hl2 : (((t.length : Nat) : Int) == n) = false := by rw [beq_eq_false_iff_ne]; exact hl
            clear hl
            go_wp2_with fail
            refine (demand_no _).mono ?_; rintro e w3 ⟨rfl, rfl⟩
            go_wp2_with fail
            exact ⟨rfl, .inr ⟨HR.out, rfl, HW.out.below⟩⟩
        · cases hT
  · go_wp2_with fail
    exact ⟨rfl, .inr ⟨HR.out, rfl, hB⟩⟩
end Go.Proofs.YtmofnkinclckoaaGreatDoor

namespace Go.Proofs.YtmofnkinclckoaaGreatDoor
open Go.RowKit Go.Lib Go.WideShapes

theorem rep_add (f : WS → Option WS) : ∀ (a b : Nat) (s : WS), rep (a + b) f s = (rep a f s).bind (rep b f) := by
  intro a
  induction a with
  | zero => intro b s; rw [Nat.zero_add]; rfl
  | succ a ih =>
    intro b s
    rw [Nat.succ_add, rep, rep]
    cases f s with
    | none => rfl
    | some s1 => exact ih b s1
theorem rep_fail {f : WS → Option WS} {j n : Nat} {s s' : WS} (h : rep j f s = some s') (hf : f s' = none) (hj : j < n) : rep n f s = none := by
  rw [show n = j + ((n - j - 1) + 1) by omega, rep_add, h]
  show rep ((n - j - 1) + 1) f s' = none
  rw [rep, hf]; rfl
theorem rep_next {f : WS → Option WS} {j : Nat} {s s' s2 : WS} (h : rep j f s = some s') (hf : f s' = some s2) : rep (j + 1) f s = some s2 := by
  rw [rep_succ, h]; exact hf

set_option maxRecDepth 100000 in
set_option maxHeartbeats 8000000 in
theorem counted_short (w0 w : World) (s : WS) (f : WS → Option WS) (hf : ∀ W s, room s ≤ 800000 → IsW w0 W s → Calls Tryz.prog 71 #[.pointer (some ⟨w0.heap.size, 0, none⟩)] W (WOut w0 (f s))) (hfr : ∀ s s', f s = some s' → room s' ≤ room s) (hr : room s ≤ 800000) (h : IsW w0 w s) :
    Calls Tryz.prog 70 #[.pointer (some ⟨w0.heap.size, 0, none⟩), .func (.func 71) #[.pointer (some ⟨w0.heap.size, 0, none⟩)] #[]] w (WOut w0 (wCounted f s)) := by
  have HN := Lib.hid (number_anyM w0 w s 0 100 2 (by omega) (by omega) (by omega) (Nat.le_trans (room_B s) (by omega)) h)
  have HF := Lib.hid hf; have HFR := Lib.hid hfr
  clear h hf hfr
  obtain ⟨R, hR⟩ : ∃ R, R = wCounted f s := ⟨_, rfl⟩
  rw [← hR]
  unfold wCounted at hR
  generalize hx : wNumber 0 100 2 s = r at HN hR
  have HX := Lib.hid hx; have HR := Lib.hid hR
  clear hx hR
  go_enter Tryz.func70, Tryz.ntmps70
  go_wp2_with fail
  refine HN.out.mono ?_; rintro e w1 (⟨n, s1, rfl, rfl, hW⟩ | ⟨rfl, rfl, hB⟩)
  · have HW := Lib.hid hW
    have hs1 : room s1 ≤ 800000 := Nat.le_trans (room_number HX.out (by omega)).1 hr
    have hn : 0 ≤ n ∧ n ≤ 100 := number_range HX.out
    have HR := Lib.hid (show R = rep n.toNat f s1 from HR.out)
    obtain ⟨hn0, hn1⟩ := hn
    obtain ⟨m, rfl⟩ := Int.eq_ofNat_of_zero_le hn0
    rw [Int.toNat_natCast] at HR
    clear hW HX HN hn0
    go_wp2_with fail
    go_loopg [8] m (fun g i wr => ∃ (j : Nat) (s2 : WS), i = .int .i64 j ∧ j ≤ m ∧ g = m - j ∧ rep j f s1 = some s2 ∧ room s2 ≤ 800000 ∧ IsW w0 wr s2)
    case atStart => exact ⟨0, s1, rfl, Nat.zero_le _, rfl, rfl, hs1, HW.out⟩
    case round =>
      obtain ⟨j, s2, rfl, hj, hg, hrep, hr2, hW2⟩ := hrel
      have HREP := Lib.hid hrep; have HW2 := Lib.hid hW2; have HG := Lib.hid hg
      clear hrep hW2 hg
      by_cases hlt : j < m
      · have hlt' : (j : Int) < m := by omega
        go_wp2_with fail
        refine (HF.out wr s2 hr2 HW2.out).mono ?_; rintro e w2 (⟨s3, hs3, rfl, hW3⟩ | ⟨hs3, rfl, hB⟩)
        · have HW3 := Lib.hid hW3
          have HN3 := Lib.hid (rep_next HREP.out hs3)
          have hr3 : room s3 ≤ 800000 := Nat.le_trans (HFR.out _ _ hs3) hr2
          clear hW3 hs3
          go_wp2_with fail
          go_roundg (m - (j + 1))
          case measure => have := HG.out; omega
          case rel => exact ⟨j + 1, s3, by go_num, by omega, rfl, HN3.out, hr3, HW3.out⟩
        · have HN3 := Lib.hid (rep_fail HREP.out hs3 hlt)
          clear hs3
          go_wp2_with fail
          exact ⟨rfl, .inr ⟨HR.out.trans HN3.out, rfl, hB⟩⟩
      · obtain rfl : j = m := by omega
        go_wp2_with fail
        go_end0
        exact .inl ⟨s2, HR.out.trans HREP.out, rfl, HW2.out⟩
  · go_wp2_with fail
    exact ⟨rfl, .inr ⟨HR.out, rfl, hB⟩⟩

set_option maxRecDepth 100000 in
set_option maxHeartbeats 8000000 in
theorem counted_long (w0 w : World) (s : WS) (f : WS → Option WS) (hf : ∀ W s, room s ≤ 800000 → IsW w0 W s → Calls Tryz.prog 67 #[.pointer (some ⟨w0.heap.size, 0, none⟩)] W (WOut w0 (f s))) (hfr : ∀ s s', f s = some s' → room s' ≤ room s) (hr : room s ≤ 800000) (h : IsW w0 w s) :
    Calls Tryz.prog 70 #[.pointer (some ⟨w0.heap.size, 0, none⟩), .func (.func 67) #[.pointer (some ⟨w0.heap.size, 0, none⟩)] #[]] w (WOut w0 (wCounted f s)) := by
  have HN := Lib.hid (number_anyM w0 w s 0 100 2 (by omega) (by omega) (by omega) (Nat.le_trans (room_B s) (by omega)) h)
  have HF := Lib.hid hf; have HFR := Lib.hid hfr
  clear h hf hfr
  obtain ⟨R, hR⟩ : ∃ R, R = wCounted f s := ⟨_, rfl⟩
  rw [← hR]
  unfold wCounted at hR
  generalize hx : wNumber 0 100 2 s = r at HN hR
  have HX := Lib.hid hx; have HR := Lib.hid hR
  clear hx hR
  go_enter Tryz.func70, Tryz.ntmps70
  go_wp2_with fail
  refine HN.out.mono ?_; rintro e w1 (⟨n, s1, rfl, rfl, hW⟩ | ⟨rfl, rfl, hB⟩)
  · have HW := Lib.hid hW
    have hs1 : room s1 ≤ 800000 := Nat.le_trans (room_number HX.out (by omega)).1 hr
    have hn : 0 ≤ n ∧ n ≤ 100 := number_range HX.out
    have HR := Lib.hid (show R = rep n.toNat f s1 from HR.out)
    obtain ⟨hn0, hn1⟩ := hn
    obtain ⟨m, rfl⟩ := Int.eq_ofNat_of_zero_le hn0
    rw [Int.toNat_natCast] at HR
    clear hW HX HN hn0
    go_wp2_with fail
    go_loopg [8] m (fun g i wr => ∃ (j : Nat) (s2 : WS), i = .int .i64 j ∧ j ≤ m ∧ g = m - j ∧ rep j f s1 = some s2 ∧ room s2 ≤ 800000 ∧ IsW w0 wr s2)
    case atStart => exact ⟨0, s1, rfl, Nat.zero_le _, rfl, rfl, hs1, HW.out⟩
    case round =>
      obtain ⟨j, s2, rfl, hj, hg, hrep, hr2, hW2⟩ := hrel
      have HREP := Lib.hid hrep; have HW2 := Lib.hid hW2; have HG := Lib.hid hg
      clear hrep hW2 hg
      by_cases hlt : j < m
      · have hlt' : (j : Int) < m := by omega
        go_wp2_with fail
        refine (HF.out wr s2 hr2 HW2.out).mono ?_; rintro e w2 (⟨s3, hs3, rfl, hW3⟩ | ⟨hs3, rfl, hB⟩)
        · have HW3 := Lib.hid hW3
          have HN3 := Lib.hid (rep_next HREP.out hs3)
          have hr3 : room s3 ≤ 800000 := Nat.le_trans (HFR.out _ _ hs3) hr2
          clear hW3 hs3
          go_wp2_with fail
          go_roundg (m - (j + 1))
          case measure => have := HG.out; omega
          case rel => exact ⟨j + 1, s3, by go_num, by omega, rfl, HN3.out, hr3, HW3.out⟩
        · have HN3 := Lib.hid (rep_fail HREP.out hs3 hlt)
          clear hs3
          go_wp2_with fail
          exact ⟨rfl, .inr ⟨HR.out.trans HN3.out, rfl, hB⟩⟩
      · obtain rfl : j = m := by omega
        go_wp2_with fail
        go_end0
        exact .inl ⟨s2, HR.out.trans HREP.out, rfl, HW2.out⟩
  · go_wp2_with fail
    exact ⟨rfl, .inr ⟨HR.out, rfl, hB⟩⟩

set_option maxRecDepth 100000 in
set_option maxHeartbeats 8000000 in
theorem counted_value (w0 w : World) (s : WS) (f : WS → Option WS) (hf : ∀ W s, room s ≤ 800000 → IsW w0 W s → Calls Tryz.prog 72 #[.pointer (some ⟨w0.heap.size, 0, none⟩)] W (WOut w0 (f s))) (hfr : ∀ s s', f s = some s' → room s' ≤ room s) (hr : room s ≤ 800000) (h : IsW w0 w s) :
    Calls Tryz.prog 70 #[.pointer (some ⟨w0.heap.size, 0, none⟩), .func (.func 72) #[.pointer (some ⟨w0.heap.size, 0, none⟩)] #[]] w (WOut w0 (wCounted f s)) := by
  have HN := Lib.hid (number_anyM w0 w s 0 100 2 (by omega) (by omega) (by omega) (Nat.le_trans (room_B s) (by omega)) h)
  have HF := Lib.hid hf; have HFR := Lib.hid hfr
  clear h hf hfr
  obtain ⟨R, hR⟩ : ∃ R, R = wCounted f s := ⟨_, rfl⟩
  rw [← hR]
  unfold wCounted at hR
  generalize hx : wNumber 0 100 2 s = r at HN hR
  have HX := Lib.hid hx; have HR := Lib.hid hR
  clear hx hR
  go_enter Tryz.func70, Tryz.ntmps70
  go_wp2_with fail
  refine HN.out.mono ?_; rintro e w1 (⟨n, s1, rfl, rfl, hW⟩ | ⟨rfl, rfl, hB⟩)
  · have HW := Lib.hid hW
    have hs1 : room s1 ≤ 800000 := Nat.le_trans (room_number HX.out (by omega)).1 hr
    have hn : 0 ≤ n ∧ n ≤ 100 := number_range HX.out
    have HR := Lib.hid (show R = rep n.toNat f s1 from HR.out)
    obtain ⟨hn0, hn1⟩ := hn
    obtain ⟨m, rfl⟩ := Int.eq_ofNat_of_zero_le hn0
    rw [Int.toNat_natCast] at HR
    clear hW HX HN hn0
    go_wp2_with fail
    go_loopg [8] m (fun g i wr => ∃ (j : Nat) (s2 : WS), i = .int .i64 j ∧ j ≤ m ∧ g = m - j ∧ rep j f s1 = some s2 ∧ room s2 ≤ 800000 ∧ IsW w0 wr s2)
    case atStart => exact ⟨0, s1, rfl, Nat.zero_le _, rfl, rfl, hs1, HW.out⟩
    case round =>
      obtain ⟨j, s2, rfl, hj, hg, hrep, hr2, hW2⟩ := hrel
      have HREP := Lib.hid hrep; have HW2 := Lib.hid hW2; have HG := Lib.hid hg
      clear hrep hW2 hg
      by_cases hlt : j < m
      · have hlt' : (j : Int) < m := by omega
        go_wp2_with fail
        refine (HF.out wr s2 hr2 HW2.out).mono ?_; rintro e w2 (⟨s3, hs3, rfl, hW3⟩ | ⟨hs3, rfl, hB⟩)
        · have HW3 := Lib.hid hW3
          have HN3 := Lib.hid (rep_next HREP.out hs3)
          have hr3 : room s3 ≤ 800000 := Nat.le_trans (HFR.out _ _ hs3) hr2
          clear hW3 hs3
          go_wp2_with fail
          go_roundg (m - (j + 1))
          case measure => have := HG.out; omega
          case rel => exact ⟨j + 1, s3, by go_num, by omega, rfl, HN3.out, hr3, HW3.out⟩
        · have HN3 := Lib.hid (rep_fail HREP.out hs3 hlt)
          clear hs3
          go_wp2_with fail
          exact ⟨rfl, .inr ⟨HR.out.trans HN3.out, rfl, hB⟩⟩
      · obtain rfl : j = m := by omega
        go_wp2_with fail
        go_end0
        exact .inl ⟨s2, HR.out.trans HREP.out, rfl, HW2.out⟩
  · go_wp2_with fail
    exact ⟨rfl, .inr ⟨HR.out, rfl, hB⟩⟩

set_option maxRecDepth 100000 in
set_option maxHeartbeats 8000000 in
theorem counted_name (w0 w : World) (s : WS) (f : WS → Option WS) (hf : ∀ W s, room s ≤ 800000 → IsW w0 W s → Calls Tryz.prog 73 #[.pointer (some ⟨w0.heap.size, 0, none⟩)] W (WOut w0 (f s))) (hfr : ∀ s s', f s = some s' → room s' ≤ room s) (hr : room s ≤ 800000) (h : IsW w0 w s) :
    Calls Tryz.prog 70 #[.pointer (some ⟨w0.heap.size, 0, none⟩), .func (.func 73) #[.pointer (some ⟨w0.heap.size, 0, none⟩)] #[]] w (WOut w0 (wCounted f s)) := by
  have HN := Lib.hid (number_anyM w0 w s 0 100 2 (by omega) (by omega) (by omega) (Nat.le_trans (room_B s) (by omega)) h)
  have HF := Lib.hid hf; have HFR := Lib.hid hfr
  clear h hf hfr
  obtain ⟨R, hR⟩ : ∃ R, R = wCounted f s := ⟨_, rfl⟩
  rw [← hR]
  unfold wCounted at hR
  generalize hx : wNumber 0 100 2 s = r at HN hR
  have HX := Lib.hid hx; have HR := Lib.hid hR
  clear hx hR
  go_enter Tryz.func70, Tryz.ntmps70
  go_wp2_with fail
  refine HN.out.mono ?_; rintro e w1 (⟨n, s1, rfl, rfl, hW⟩ | ⟨rfl, rfl, hB⟩)
  · have HW := Lib.hid hW
    have hs1 : room s1 ≤ 800000 := Nat.le_trans (room_number HX.out (by omega)).1 hr
    have hn : 0 ≤ n ∧ n ≤ 100 := number_range HX.out
    have HR := Lib.hid (show R = rep n.toNat f s1 from HR.out)
    obtain ⟨hn0, hn1⟩ := hn
    obtain ⟨m, rfl⟩ := Int.eq_ofNat_of_zero_le hn0
    rw [Int.toNat_natCast] at HR
    clear hW HX HN hn0
    go_wp2_with fail
    go_loopg [8] m (fun g i wr => ∃ (j : Nat) (s2 : WS), i = .int .i64 j ∧ j ≤ m ∧ g = m - j ∧ rep j f s1 = some s2 ∧ room s2 ≤ 800000 ∧ IsW w0 wr s2)
    case atStart => exact ⟨0, s1, rfl, Nat.zero_le _, rfl, rfl, hs1, HW.out⟩
    case round =>
      obtain ⟨j, s2, rfl, hj, hg, hrep, hr2, hW2⟩ := hrel
      have HREP := Lib.hid hrep; have HW2 := Lib.hid hW2; have HG := Lib.hid hg
      clear hrep hW2 hg
      by_cases hlt : j < m
      · have hlt' : (j : Int) < m := by omega
        go_wp2_with fail
        refine (HF.out wr s2 hr2 HW2.out).mono ?_; rintro e w2 (⟨s3, hs3, rfl, hW3⟩ | ⟨hs3, rfl, hB⟩)
        · have HW3 := Lib.hid hW3
          have HN3 := Lib.hid (rep_next HREP.out hs3)
          have hr3 : room s3 ≤ 800000 := Nat.le_trans (HFR.out _ _ hs3) hr2
          clear hW3 hs3
          go_wp2_with fail
          go_roundg (m - (j + 1))
          case measure => have := HG.out; omega
          case rel => exact ⟨j + 1, s3, by go_num, by omega, rfl, HN3.out, hr3, HW3.out⟩
        · have HN3 := Lib.hid (rep_fail HREP.out hs3 hlt)
          clear hs3
          go_wp2_with fail
          exact ⟨rfl, .inr ⟨HR.out.trans HN3.out, rfl, hB⟩⟩
      · obtain rfl : j = m := by omega
        go_wp2_with fail
        go_end0
        exact .inl ⟨s2, HR.out.trans HREP.out, rfl, HW2.out⟩
  · go_wp2_with fail
    exact ⟨rfl, .inr ⟨HR.out, rfl, hB⟩⟩

end Go.Proofs.YtmofnkinclckoaaGreatDoor

namespace Go.Proofs.YtmofnkinclckoaaGreatDoor
open Go.RowKit Go.Lib Go.WideShapes

theorem pair_room {s s' : WS} (h : wPair s = some s') : room s' ≤ room s ∧ s'.T = s.T.drop 1 := by
  unfold wPair at h
  cases hT : s.T with
  | nil => rw [hT] at h; cases h
  | cons t ts =>
    rw [hT] at h
    simp only at h
    split at h
    · cases h
    · refine ⟨by have := room_text h; omega, ?_⟩
      unfold wText at h
      rw [hT] at h
      simp only at h
      split at h
      · cases h
      · rw [← Option.some.inj h]; rfl
theorem text_drop {s s' : WS} (h : wText s = some s') : s'.T = s.T.drop 1 := by
  unfold wText at h
  cases hT : s.T with
  | nil => rw [hT] at h; cases h
  | cons t ts =>
    rw [hT] at h
    simp only at h
    split at h
    · cases h
    · rw [← Option.some.inj h]; rfl
theorem item_room {s s' : WS} (h : wItem s = some s') : room s' ≤ room s := by
  unfold wItem at h
  cases hN : wNumber 1 255 1 s with
  | none => rw [hN] at h; cases h
  | some p =>
    obtain ⟨n, s1⟩ := p
    rw [hN] at h
    have h : wText s1 = some s' := h
    have h1 := room_text h
    have h2 := (room_number hN (by omega)).1
    omega

set_option maxRecDepth 100000 in
set_option maxHeartbeats 8000000 in
theorem pairs_any (w0 w : World) (s : WS) (hr : room s ≤ 800000) (h : IsW w0 w s) :
    Calls Tryz.prog 68 #[.pointer (some ⟨w0.heap.size, 0, none⟩)] w (WOut w0 (wPairs s)) := by
  have hh := h
  obtain ⟨tv, nv, bv, hW⟩ := hh
  obtain ⟨a, n, c, rfl, hl, _, hc9, _⟩ := hW.texts
  have c0 := hW.c0
  have HN := Lib.hid (nextnum_any w0 w s 0 n h)
  obtain ⟨R, hR⟩ : ∃ R, R = wPairs s := ⟨_, rfl⟩
  rw [← hR]
  unfold wPairs at hR
  rw [hl] at hR
  generalize hx : wNum 0 n s = r at HN hR
  have HX := Lib.hid hx; have HR := Lib.hid hR; have HL := Lib.hid hl
  clear hx hR h hW hl
  go_enter Tryz.func68, Tryz.ntmps68
  go_wp2_with fail
  refine HN.out.mono ?_; rintro e w1 (⟨k, s1, rfl, rfl, hW⟩ | ⟨rfl, rfl, hB⟩)
  · have HW := Lib.hid hW
    have hs1 : room s1 ≤ 800000 := by have := (room_num HX.out).2.2; omega
    obtain ⟨hk0, hk1⟩ := num_range HX.out
    have HT1 := Lib.hid (show s1.T.length = n by rw [(room_num HX.out).2.1]; exact HL.out)
    have HR := Lib.hid (show R = if k % 2 = 0 then (rep k.toNat wPair s1).map wZero else none from HR.out)
    obtain ⟨m, rfl⟩ := Int.eq_ofNat_of_zero_le hk0
    rw [Int.toNat_natCast] at HR
    have hmn : m ≤ n := by omega
    clear hW HX HN hk0 c0
    by_cases h2 : (m : Int) % 2 = 0
    · have HR := Lib.hid (show R = (rep m wPair s1).map wZero by rw [HR.out, if_pos h2])
      have h2b : ((m : Int) % 2 == 0) = true := by rw [beq_iff_eq]; exact h2
      clear h2
      go_wp2_with fail
      refine (demand_ok _).mono ?_; rintro e w2 ⟨rfl, rfl⟩
      clear h2b
      go_wp2_with fail
      go_loopg [15] m (fun g i wr => ∃ (j : Nat) (s2 : WS), i = .int .i64 j ∧ j ≤ m ∧ g = m - j ∧ rep j wPair s1 = some s2 ∧ s2.T.length = n - j ∧ room s2 ≤ 800000 ∧ IsW w0 wr s2)
      case atStart => exact ⟨0, s1, rfl, Nat.zero_le _, rfl, rfl, HT1.out, hs1, HW.out⟩
      case round =>
        obtain ⟨j, s2, rfl, hj, hg, hrep, htl, hr2, hW2⟩ := hrel
        have HREP := Lib.hid hrep; have HW2 := Lib.hid hW2; have HG := Lib.hid hg; have HTL := Lib.hid htl
        clear hrep hW2 hg htl
        by_cases hlt : j < m
        · have hlt' : (j : Int) < m := by omega
          obtain ⟨tv, nv, bv, hWA⟩ := HW2.out
          obtain ⟨a2, n2, c2, rfl, hl2, hn2, hc2, _⟩ := hWA.texts
          have hd0 := hWA.c0
          have HTX := Lib.hid hWA.texts
          have HBL := Lib.hid hWA.below
          have HTE := Lib.hid (text_any w0 wr s2 (by omega) HW2.out)
          obtain ⟨T, N, B⟩ := s2
          clear hWA
          cases T with
          | nil => exfalso; have := HTL.out; rw [show (WS.mk [] N B).T.length = 0 from rfl] at this; omega
          | cons t ts =>
            obtain ⟨g, off, rfl, hgl, hcell, hp1, _⟩ := HTX.out.tail
            have d0 := (HBL.out.cell (p := ⟨g, off, none⟩) hgl).trans hcell
            have hp1' : (1 : Int) ≤ n2 := by omega
            have hp2' : 0 < n2 := by omega
            clear hcell
            by_cases ht : t = []
            · subst ht
              have HN3 := Lib.hid (rep_fail (n := m) HREP.out (show wPair ⟨[] :: ts, N, B⟩ = none from rfl) hlt)
              go_wp2_with fail
              refine (demand_no _).mono ?_; rintro e w2 ⟨rfl, rfl⟩
              go_wp2_with fail
              exact ⟨rfl, .inr ⟨HR.out.trans (by rw [HN3.out]; rfl), rfl, HBL.out⟩⟩
            · have HPE := Lib.hid (show wPair ⟨t :: ts, N, B⟩ = wText ⟨t :: ts, N, B⟩ by unfold wPair; simp only; rw [if_neg ht])
              have hte : t.isEmpty = false := by cases t with
                | nil => exact absurd rfl ht
                | cons x y => rfl
              have hne : (t == []) = false := by cases t with
                | nil => exact absurd rfl ht
                | cons x y => rfl
              clear ht
              go_wp2_with fail
              refine (demand_ok _).mono ?_; rintro e w2 ⟨rfl, rfl⟩
              go_wp2_with fail
              refine HTE.out.mono ?_; rintro e w2 (⟨s3, hs3, rfl, hW3⟩ | ⟨hs3, rfl, hB⟩)
              · have HW3 := Lib.hid hW3
                have HN3 := Lib.hid (rep_next HREP.out (HPE.out.trans hs3))
                have hr3 : room s3 ≤ 800000 := by have := room_text hs3; omega
                have HTL3 := Lib.hid (show s3.T.length = n - (j + 1) by rw [text_drop hs3, List.length_drop, HTL.out]; omega)
                clear hW3 hs3
                go_wp2_with fail
                go_roundg (m - (j + 1))
                case measure => have := HG.out; omega
                case rel => exact ⟨j + 1, s3, by go_num, by omega, rfl, HN3.out, HTL3.out, hr3, HW3.out⟩
              · have HN3 := Lib.hid (rep_fail (n := m) HREP.out (HPE.out.trans hs3) hlt)
                clear hs3
                go_wp2_with fail
                exact ⟨rfl, .inr ⟨HR.out.trans (by rw [HN3.out]; rfl), rfl, hB⟩⟩
        · obtain rfl : j = m := by omega
          have hbz : s2.B.length ≤ 1000000 := by have := room_B s2; omega
          go_wp2_with fail
          refine (zero_any w0 wr s2 hbz HW2.out).mono ?_; rintro e w3 (⟨s', hs', rfl, hW3⟩ | ⟨hs', _⟩)
          · obtain rfl := Option.some.inj hs'
            go_wp2_with fail
            go_end0
            exact .inl ⟨_, HR.out.trans (by rw [HREP.out]; rfl), rfl, hW3⟩
          · cases hs'
    · have HR := Lib.hid (show R = none by rw [HR.out, if_neg h2])
      have h2b : ((m : Int) % 2 == 0) = false := by rw [beq_eq_false_iff_ne]; exact h2
      obtain ⟨tv, nv, bv, hWB⟩ := HW.out
      have HBL := Lib.hid hWB.below
      clear h2 hWB
      go_wp2_with fail
      refine (demand_no _).mono ?_; rintro e w2 ⟨rfl, rfl⟩
      go_wp2_with fail
      exact ⟨rfl, .inr ⟨HR.out, rfl, HBL.out⟩⟩
  · go_wp2_with fail
    exact ⟨rfl, .inr ⟨HR.out, rfl, hB⟩⟩
end Go.Proofs.YtmofnkinclckoaaGreatDoor
