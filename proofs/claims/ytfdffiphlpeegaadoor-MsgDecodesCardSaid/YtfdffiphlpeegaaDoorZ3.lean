/- Contracts and mathematics: MNum, MText, MItems. -/
import Derived.Test.YtfdffiphlpeegaaDoorZ2
import Derived.Deep.RegionLaw
import Derived.Deep.RegionWith
import Derived.Deep.DeepCutAuto
namespace Go.Proofs.YtfdffiphlpeegaaDoor
open Go.RowKit Go.Lib Go.WideShapes

theorem WAt.grewD {w0 w w1 : World} {s : WS} {tv nv bv : Value} {o : Obj} (h : WAt w0 w s tv nv bv) (hg : (w.alloc o).drew.grownBy w1 bv.ownBlock) : Below (w0.heap.size + 1) w w1 :=
  below_grown ((Below.refl (w0.heap.size + 1) w).alloc h.lt _).drew (by show _ ≤ (w.alloc o).heap.size; rw [World.size_alloc]; exact Nat.le_succ_of_le h.lt) hg (fun q hq => (h.body.lt q hq).1)
theorem byte_wrap (n : Int) (i : Nat) : IntKind.u8.wrap (n / (256 ^ i : Nat)) = ((byteAt n i).toNat : Nat) := by
  unfold byteAt
  rw [UInt8.toNat_ofNat']
  have h1 : 0 ≤ n / (256 ^ i : Nat) % 256 := Int.emod_nonneg _ (by decide)
  have h2 : n / (256 ^ i : Nat) % 256 < 256 := Int.emod_lt_of_pos _ (by decide)
  have e : IntKind.u8.wrap (n / (256 ^ i : Nat)) = n / (256 ^ i : Nat) % 256 := by
    simp [IntKind.wrap, IntKind.bits, IntKind.signed]
  rw [e]
  omega

set_option maxRecDepth 100000 in
set_option maxHeartbeats 8000000 in
theorem number_any (w0 w : World) (s : WS) (l m : Int) (k : Nat) (hk : 1 ≤ k ∧ k ≤ 4) (hl : -2147483648 ≤ l) (hm : m ≤ 2147483647) (hr : s.B.length ≤ 900000) (h : IsW w0 w s) :
    Calls Tryd.prog 54 #[.pointer (some ⟨w0.heap.size, 0, none⟩), .int .i64 l, .int .i64 m, .int .i64 k] w (WOutN w0 (wNumber l m k s)) := by
  obtain ⟨i0, hi, y0, y1, y2⟩ := info_parts info_u8
  have HN := Lib.hid (nextnum_any w0 w s l m h)
  obtain ⟨hk1, hk4⟩ := hk
  clear h
  unfold wNumber
  generalize hx : wNum l m s = r at HN ⊢
  have HX := Lib.hid hx
  clear hx
  go_enter Tryd.func54, Tryd.ntmps54
  go_wp2_with fail
  refine HN.out.mono ?_; rintro e w1 (⟨n, s1, rfl, rfl, hW⟩ | ⟨rfl, rfl, hB⟩)
  · have HW := Lib.hid hW
    have hs1 := room_num HX.out
    have hB1 : s1.B.length ≤ 900000 := by rw [hs1.1]; exact hr
    have hn : l ≤ n ∧ n ≤ m := by
      have := HX.out
      unfold wNum at this
      cases hN : s.N with
      | nil => rw [hN] at this; cases this
      | cons x ns =>
        rw [hN] at this
        simp only at this
        split at this
        · rename_i hc
          have e := (Prod.mk.inj (Option.some.inj this)).1
          subst e; exact hc
        · cases this
    obtain ⟨hn1, hn2⟩ := hn
    have hn3 : -2147483648 ≤ n := by omega
    have hn4 : n ≤ 2147483647 := by omega
    clear hW hs1 HX HN hn1 hn2 hl hm
    obtain ⟨T1, N1, B1⟩ := s1
    have hB1 : B1.length ≤ 900000 := hB1
    go_wp2_with fail
    go_loopg [10] k (fun g i wr => ∃ (j : Nat) (P : Bs), i = .int .i64 ((j : Int) - 1) ∧ j ≤ k ∧ g = j ∧ P ++ be j n = be k n ∧ IsW w0 wr ⟨T1, N1, B1 ++ P⟩)
    case atStart => exact ⟨k, [], rfl, Nat.le_refl _, rfl, rfl, by rw [List.append_nil]; exact HW.out⟩
    case round =>
      obtain ⟨j, P, rfl, hj, hg, hP, hWP⟩ := hrel
      have HP := Lib.hid hP; have HG := Lib.hid hg
      obtain ⟨tv, nv, bv, hWP⟩ := hWP
      obtain ⟨a, c, rfl⟩ := hWP.room_blocks
      have hPl : P.length ≤ 4 := by have := congrArg List.length hP; rw [List.length_append, be_length, be_length] at this; omega
      obtain ⟨BL, hBL⟩ : ∃ BL : Nat, BL = (B1 ++ P).length := ⟨_, rfl⟩
      have hBl : BL ≤ 900004 := by rw [hBL, List.length_append]; omega
      have HBL := Lib.hid hBL
      rw [show (WS.mk T1 N1 (B1 ++ P)).B.length = BL from hBL.symm] at hWP
      have HBODY := Lib.hid (show wr.ownsRow (w0.heap.size + 1) 5 1 (.slice a BL c) BL (bcells (B1 ++ P)) by have := hWP.body; rw [show (WS.mk T1 N1 (B1 ++ P)).B.length = BL from hBL.symm] at this; exact this)
      have c2 := hWP.c2
      have f2 := hWP.f2
      have hz := hWP.lt
      have HWP := Lib.hid hWP
      clear hP hg hWP hBL
      by_cases h0 : 1 ≤ j
      · rcases (by omega : j = 1 ∨ j = 2 ∨ j = 3 ∨ j = 4) with rfl | rfl | rfl | rfl
        · have hw : IntKind.i64.wrap 0 = 0 := rfl
          have HV := Lib.hid (show IntKind.u8.wrap n = ((byteAt n 0).toNat : Nat) from by have := byte_wrap n 0; rw [show ((256 ^ 0 : Nat) : Int) = 1 from rfl, Int.ediv_one] at this; exact this)
          go_upto_region 5 with (fail)
          go_region_law (refine step_append_own rfl (.tmp 25) (.tmp 31) 69 rfl (w0.heap.size + 1) 5 i0 (.int .u8 0) 1 1 Tryd.underlying69 hi y0 y1 y2 rfl (by decide) (.slice a BL c) BL (bcells (B1 ++ P)) (by simp [Act.eval]) (HBODY.out.drew.alloc _) ⟨wr.heap.size, 0, none⟩ 1 1 [.int .u8 (IntKind.u8.wrap n)] (by simp [Act.eval]) rfl ?c1 ?c2 ?c3 ?c4 ?c5 ?_; (case c1 => (intro j u h; rw [Go.WideShapes.add_plain, Nat.zero_add, ← h]; exact (World.cell?_alloc_new wr _ _ j).trans (by simp))); (case c2 => (intro u hu; simp at hu; rcases hu with rfl; rfl)); (case c3 => (unfold maxLen; omega)); (case c4 => omega); (case c5 => (first | omega | (simp; omega))); intro v' w5 hO5 hg5; obtain ⟨a', c', rfl⟩ := ownsRow_form hO5; have HB5 := Lib.hid (HWP.out.grewD hg5); obtain ⟨e2, g2, hz1⟩ := HWP.out.after HB5.out; rw [HV.out] at hO5; have HP5 := Lib.hid (HWP.out.put2 (B := (B1 ++ P) ++ [byteAt n 0]) HB5.out (by rw [bcells_append, List.length_append, ← HBL.out]; exact hO5)); clear hO5 hg5)
          all_goals
            go_wp2_with fail
            go_roundg 0
            case measure => have := HG.out; omega
            case rel => exact ⟨0, P ++ [byteAt n 0], by first | rfl | (congr 1; omega) | go_num, by omega, rfl, by rw [List.append_assoc]; exact HP.out, _, _, _, by rw [← List.append_assoc]; exact HP5.out⟩
        · have hw : IntKind.i64.wrap 8 = 8 := rfl
          have HV := Lib.hid (show IntKind.u8.wrap (n / 256) = ((byteAt n 1).toNat : Nat) from byte_wrap n 1)
          go_upto_region 5 with (fail)
          go_region_law (refine step_append_own rfl (.tmp 25) (.tmp 31) 69 rfl (w0.heap.size + 1) 5 i0 (.int .u8 0) 1 1 Tryd.underlying69 hi y0 y1 y2 rfl (by decide) (.slice a BL c) BL (bcells (B1 ++ P)) (by simp [Act.eval]) (HBODY.out.drew.alloc _) ⟨wr.heap.size, 0, none⟩ 1 1 [.int .u8 (IntKind.u8.wrap (n / 256))] (by simp [Act.eval]) rfl ?c1 ?c2 ?c3 ?c4 ?c5 ?_; (case c1 => (intro j u h; rw [Go.WideShapes.add_plain, Nat.zero_add, ← h]; exact (World.cell?_alloc_new wr _ _ j).trans (by simp))); (case c2 => (intro u hu; simp at hu; rcases hu with rfl; rfl)); (case c3 => (unfold maxLen; omega)); (case c4 => omega); (case c5 => (first | omega | (simp; omega))); intro v' w5 hO5 hg5; obtain ⟨a', c', rfl⟩ := ownsRow_form hO5; have HB5 := Lib.hid (HWP.out.grewD hg5); obtain ⟨e2, g2, hz1⟩ := HWP.out.after HB5.out; rw [HV.out] at hO5; have HP5 := Lib.hid (HWP.out.put2 (B := (B1 ++ P) ++ [byteAt n 1]) HB5.out (by rw [bcells_append, List.length_append, ← HBL.out]; exact hO5)); clear hO5 hg5)
          all_goals
            go_wp2_with fail
            go_roundg 1
            case measure => have := HG.out; omega
            case rel => exact ⟨1, P ++ [byteAt n 1], by first | rfl | (congr 1; omega) | go_num, by omega, rfl, by rw [List.append_assoc]; exact HP.out, _, _, _, by rw [← List.append_assoc]; exact HP5.out⟩
        · have hw : IntKind.i64.wrap 16 = 16 := rfl
          have HV := Lib.hid (show IntKind.u8.wrap (n / 65536) = ((byteAt n 2).toNat : Nat) from byte_wrap n 2)
          go_upto_region 5 with (fail)
          go_region_law (refine step_append_own rfl (.tmp 25) (.tmp 31) 69 rfl (w0.heap.size + 1) 5 i0 (.int .u8 0) 1 1 Tryd.underlying69 hi y0 y1 y2 rfl (by decide) (.slice a BL c) BL (bcells (B1 ++ P)) (by simp [Act.eval]) (HBODY.out.drew.alloc _) ⟨wr.heap.size, 0, none⟩ 1 1 [.int .u8 (IntKind.u8.wrap (n / 65536))] (by simp [Act.eval]) rfl ?c1 ?c2 ?c3 ?c4 ?c5 ?_; (case c1 => (intro j u h; rw [Go.WideShapes.add_plain, Nat.zero_add, ← h]; exact (World.cell?_alloc_new wr _ _ j).trans (by simp))); (case c2 => (intro u hu; simp at hu; rcases hu with rfl; rfl)); (case c3 => (unfold maxLen; omega)); (case c4 => omega); (case c5 => (first | omega | (simp; omega))); intro v' w5 hO5 hg5; obtain ⟨a', c', rfl⟩ := ownsRow_form hO5; have HB5 := Lib.hid (HWP.out.grewD hg5); obtain ⟨e2, g2, hz1⟩ := HWP.out.after HB5.out; rw [HV.out] at hO5; have HP5 := Lib.hid (HWP.out.put2 (B := (B1 ++ P) ++ [byteAt n 2]) HB5.out (by rw [bcells_append, List.length_append, ← HBL.out]; exact hO5)); clear hO5 hg5)
          all_goals
            go_wp2_with fail
            go_roundg 2
            case measure => have := HG.out; omega
            case rel => exact ⟨2, P ++ [byteAt n 2], by first | rfl | (congr 1; omega) | go_num, by omega, rfl, by rw [List.append_assoc]; exact HP.out, _, _, _, by rw [← List.append_assoc]; exact HP5.out⟩
        · have hw : IntKind.i64.wrap 24 = 24 := rfl
          have HV := Lib.hid (show IntKind.u8.wrap (n / 16777216) = ((byteAt n 3).toNat : Nat) from byte_wrap n 3)
          go_upto_region 5 with (fail)
          go_region_law (refine step_append_own rfl (.tmp 25) (.tmp 31) 69 rfl (w0.heap.size + 1) 5 i0 (.int .u8 0) 1 1 Tryd.underlying69 hi y0 y1 y2 rfl (by decide) (.slice a BL c) BL (bcells (B1 ++ P)) (by simp [Act.eval]) (HBODY.out.drew.alloc _) ⟨wr.heap.size, 0, none⟩ 1 1 [.int .u8 (IntKind.u8.wrap (n / 16777216))] (by simp [Act.eval]) rfl ?c1 ?c2 ?c3 ?c4 ?c5 ?_; (case c1 => (intro j u h; rw [Go.WideShapes.add_plain, Nat.zero_add, ← h]; exact (World.cell?_alloc_new wr _ _ j).trans (by simp))); (case c2 => (intro u hu; simp at hu; rcases hu with rfl; rfl)); (case c3 => (unfold maxLen; omega)); (case c4 => omega); (case c5 => (first | omega | (simp; omega))); intro v' w5 hO5 hg5; obtain ⟨a', c', rfl⟩ := ownsRow_form hO5; have HB5 := Lib.hid (HWP.out.grewD hg5); obtain ⟨e2, g2, hz1⟩ := HWP.out.after HB5.out; rw [HV.out] at hO5; have HP5 := Lib.hid (HWP.out.put2 (B := (B1 ++ P) ++ [byteAt n 3]) HB5.out (by rw [bcells_append, List.length_append, ← HBL.out]; exact hO5)); clear hO5 hg5)
          all_goals
            go_wp2_with fail
            go_roundg 3
            case measure => have := HG.out; omega
            case rel => exact ⟨3, P ++ [byteAt n 3], by first | rfl | (congr 1; omega) | go_num, by omega, rfl, by rw [List.append_assoc]; exact HP.out, _, _, _, by rw [← List.append_assoc]; exact HP5.out⟩
      · obtain rfl : j = 0 := by omega
        go_wp2_with fail
        go_ret
        refine .inl ⟨n, _, rfl, rfl, ?_⟩
        have e : P = be k n := by have := HP.out; rw [show be 0 n = [] from rfl, List.append_nil] at this; exact this
        rw [← e]
        exact ⟨_, _, _, HWP.out⟩
  · go_wp2_with fail
    exact ⟨rfl, .inr ⟨rfl, rfl, hB⟩⟩
end Go.Proofs.YtfdffiphlpeegaaDoor

namespace Go.Proofs.YtfdffiphlpeegaaDoor
open Go.RowKit Go.Lib Go.WideShapes

theorem ib_in : ∀ l : Bs, ((0 : UInt8) ∈ l → 0 ≤ Lib.indexByte l 0) ∧ ((0 : UInt8) ∉ l → Lib.indexByte l 0 = -1) := by
  intro l
  induction l with
  | nil => exact ⟨(fun h => by cases h), (fun _ => rfl)⟩
  | cons b l ih =>
    have e : Lib.indexByte (b :: l) 0 = if b == 0 then 0 else if Lib.indexByte l 0 == -1 then -1 else Lib.indexByte l 0 + 1 := rfl
    rw [e]
    by_cases hb : b = 0
    · subst hb
      exact ⟨(fun _ => Int.le_refl _), (fun h => absurd (List.mem_cons_self ..) h)⟩
    · have hb' : (b == 0) = false := by simpa using hb
      rw [hb', if_neg (by simp)]
      constructor
      · intro h
        have hl : (0 : UInt8) ∈ l := by
          rcases List.mem_cons.1 h with h | h
          · exact absurd h.symm hb
          · exact h
        have := ih.1 hl
        have hne : (Lib.indexByte l 0 == -1) = false := by simp; omega
        rw [hne, if_neg (by simp)]; omega
      · intro h
        rw [ih.2 (fun hl => h (List.mem_cons_of_mem _ hl))]; rfl

theorem index_zero (t : Bs) (w : World) : Calls Tryd.prog 62 #[.string ⟨t.toArray⟩, .int .u8 0] w fun e w' => ∃ i : Int, e = .returned (.int .i64 i) ∧ (((0 : UInt8) ∈ t ∧ 0 ≤ i) ∨ ((0 : UInt8) ∉ t ∧ i < 0)) ∧ w = w' := by
  refine (Tryd.strings_IndexByte ⟨t.toArray⟩ 0 w).mono ?_
  rintro e w' ⟨rfl, rfl⟩
  refine ⟨_, rfl, ?_, rfl⟩
  by_cases h : (0 : UInt8) ∈ t
  · exact .inl ⟨h, (ib_in t).1 h⟩
  · refine .inr ⟨h, ?_⟩
    have := (ib_in t).2 h
    show Lib.indexByte t 0 < 0
    omega

theorem text_size {s : WS} {t : Bs} {ts : List Bs} (h : s.T = t :: ts) : s.B.length + t.length + 19 ≤ room s := by
  unfold room
  rw [h, List.map_cons, List.sum_cons]
  omega

set_option maxRecDepth 100000 in
set_option maxHeartbeats 8000000 in
theorem text_any (w0 w : World) (s : WS) (hr : room s ≤ 900000) (h : IsW w0 w s) :
    Calls Tryd.prog 53 #[.pointer (some ⟨w0.heap.size, 0, none⟩)] w (WOut w0 (wText s)) := by
  have HN := Lib.hid (nexttext_any w0 w s h)
  obtain ⟨T, N, B⟩ := s
  clear h
  cases T with
  | nil =>
    rw [show wText ⟨[], N, B⟩ = none from rfl]
    go_enter Tryd.func53, Tryd.ntmps53
    go_wp2_with fail
    refine HN.out.mono ?_; rintro e w1 (⟨t, ts, hT, _⟩ | ⟨_, rfl, hB⟩)
    · cases hT
    · go_wp2_with fail
      exact ⟨rfl, .inr ⟨rfl, rfl, hB⟩⟩
  | cons t ts =>
    have hsz := text_size (s := ⟨t :: ts, N, B⟩) (t := t) (ts := ts) rfl
    have hsz : B.length + t.length + 19 ≤ room ⟨t :: ts, N, B⟩ := hsz
    have hBl : B.length ≤ 900000 := by omega
    have htl : t.length ≤ 900000 := by omega
    have hBT : B.length + t.length ≤ 900000 := by omega
    clear hsz hr
    by_cases h0 : (0 : UInt8) ∈ t
    · rw [show wText ⟨t :: ts, N, B⟩ = none by unfold wText; simp only; rw [if_pos h0]]
      have H0 := Lib.hid h0
      clear h0
      go_enter Tryd.func53, Tryd.ntmps53
      go_wp2_with fail
      refine HN.out.mono ?_; rintro e w1 (⟨t', ts', hT, rfl, hW⟩ | ⟨hT, _⟩)
      · obtain ⟨rfl, rfl⟩ := List.cons.inj hT
        obtain ⟨_, _, _, hW⟩ := hW
        have HB := Lib.hid hW.below
        clear hT hW HN
        go_wp2_with fail
        refine (index_zero t w1).mono ?_; rintro e w2 ⟨i, rfl, ⟨_, hi⟩ | ⟨h, _⟩, rfl⟩
        · have hd : decide (i < 0) = false := by simp; omega
          go_wp2_with fail
          refine (demand_no _).mono ?_; rintro e w3 ⟨rfl, rfl⟩
          go_wp2_with fail
          exact ⟨rfl, .inr ⟨rfl, rfl, HB.out⟩⟩
        · exact absurd H0.out h
      · cases hT
    · rw [show wText ⟨t :: ts, N, B⟩ = some ⟨ts, N, B ++ (t ++ [0])⟩ by unfold wText; simp only; rw [if_neg h0]]
      have H0 := Lib.hid h0
      clear h0
      go_enter Tryd.func53, Tryd.ntmps53
      go_wp2_with fail
      refine HN.out.mono ?_; rintro e w1 (⟨t', ts', hT, rfl, hW⟩ | ⟨hT, _⟩)
      · obtain ⟨rfl, rfl⟩ := List.cons.inj hT
        obtain ⟨tv, nv, bv, hW⟩ := hW
        have HW := Lib.hid hW
        clear hT hW HN
        go_wp2_with fail
        refine (index_zero t w1).mono ?_; rintro e w2 ⟨i, rfl, ⟨h, _⟩ | ⟨_, hi⟩, rfl⟩
        · exact absurd h H0.out
        · have hd : decide (i < 0) = true := by simp; omega
          go_wp2_with fail
          refine (demand_ok _).mono ?_; rintro e w3 ⟨rfl, rfl⟩
          obtain ⟨a, c, rfl⟩ := HW.out.room_blocks
          have c2 := HW.out.c2
          have f2 := HW.out.f2
          obtain ⟨a', c', w4, hrun, e2, g2, hz1, hP⟩ := put_text ⟨t.toArray⟩ (by show B.length ≤ _; omega) (by rw [bsize]; omega) HW.out
          have HP := Lib.hid hP
          have HRUN := Lib.hid hrun
          clear hP hrun hd
          go_wp2_with (at_builtin; refine wpList_append_eq rfl (.tmp 13) (.tmp 14) 69 9 rfl _ _ rfl rfl _ _ HRUN.out ?_)
          clear c2 f2
          go_wp2_with fail
          have hZ := zero_any w0 _ ⟨ts, N, B ++ t⟩ (by show (B ++ t).length ≤ _; rw [List.length_append]; omega) ⟨_, _, _, HP.out⟩
          refine hZ.mono ?_; rintro e w5 (⟨s', hs', rfl, hW5⟩ | ⟨hs', _⟩)
          · obtain rfl := Option.some.inj hs'
            go_wp2_with fail
            go_end0
            exact .inl ⟨_, rfl, rfl, by rw [← List.append_assoc]; exact hW5⟩
          · cases hs'
      · cases hT
end Go.Proofs.YtfdffiphlpeegaaDoor

namespace Go.Proofs.YtfdffiphlpeegaaDoor
open Go.RowKit Go.Lib Go.WideShapes

theorem room_B (s : WS) : s.B.length ≤ room s := by unfold room; omega

set_option maxRecDepth 100000 in
set_option maxHeartbeats 4000000 in
theorem short_any (w0 w : World) (s : WS) (hr : room s ≤ 900000) (h : IsW w0 w s) :
    Calls Tryd.prog 59 #[.pointer (some ⟨w0.heap.size, 0, none⟩)] w (WOut w0 (wShort s)) := by
  have HN := Lib.hid (number_any w0 w s (-32768) 32767 2 (by omega) (by omega) (by omega) (Nat.le_trans (room_B s) hr) h)
  clear h hr
  unfold wShort
  generalize wNumber (-32768) 32767 2 s = r at HN ⊢
  go_enter Tryd.func59, Tryd.ntmps59
  go_wp2_with fail
  refine HN.out.mono ?_; rintro e w1 (⟨n, s1, rfl, rfl, hW⟩ | ⟨rfl, rfl, hB⟩)
  · have HW := Lib.hid hW
    clear hW
    go_wp2_with fail
    go_end0
    exact .inl ⟨_, rfl, rfl, HW.out⟩
  · go_wp2_with fail
    exact ⟨rfl, .inr ⟨rfl, rfl, hB⟩⟩
set_option maxRecDepth 100000 in
set_option maxHeartbeats 4000000 in
theorem long_any (w0 w : World) (s : WS) (hr : room s ≤ 900000) (h : IsW w0 w s) :
    Calls Tryd.prog 55 #[.pointer (some ⟨w0.heap.size, 0, none⟩)] w (WOut w0 (wLong s)) := by
  have HN := Lib.hid (number_any w0 w s (-2147483648) 2147483647 4 (by omega) (by omega) (by omega) (Nat.le_trans (room_B s) hr) h)
  clear h hr
  unfold wLong
  generalize wNumber (-2147483648) 2147483647 4 s = r at HN ⊢
  go_enter Tryd.func55, Tryd.ntmps55
  go_wp2_with fail
  refine HN.out.mono ?_; rintro e w1 (⟨n, s1, rfl, rfl, hW⟩ | ⟨rfl, rfl, hB⟩)
  · have HW := Lib.hid hW
    clear hW
    go_wp2_with fail
    go_end0
    exact .inl ⟨_, rfl, rfl, HW.out⟩
  · go_wp2_with fail
    exact ⟨rfl, .inr ⟨rfl, rfl, hB⟩⟩

set_option maxRecDepth 100000 in
set_option maxHeartbeats 4000000 in
theorem name_any (w0 w : World) (s : WS) (hr : room s ≤ 800000) (h : IsW w0 w s) :
    Calls Tryd.prog 61 #[.pointer (some ⟨w0.heap.size, 0, none⟩)] w (WOut w0 (wName s)) := by
  have HN := Lib.hid (text_any w0 w s (by omega) h)
  clear h
  unfold wName
  generalize hx : wText s = r at HN ⊢
  have HX := Lib.hid hx
  clear hx
  go_enter Tryd.func61, Tryd.ntmps61
  go_wp2_with fail
  refine HN.out.mono ?_; rintro e w1 (⟨s1, rfl, rfl, hW⟩ | ⟨rfl, rfl, hB⟩)
  · have HW := Lib.hid hW
    have hs1 : s1.B.length ≤ 800000 := by have := room_text HX.out; have := room_B s1; omega
    clear hW HX HN
    obtain ⟨T, N, B⟩ := s1
    have hs1 : B.length ≤ 800000 := hs1
    go_wp2_with fail
    go_loopg [4] 18 (fun g i wr => ∃ j : Nat, i = .int .i64 j ∧ j ≤ 18 ∧ g = 18 - j ∧ IsW w0 wr ⟨T, N, B ++ List.replicate j 0⟩)
    case atStart => exact ⟨0, rfl, by omega, rfl, by rw [List.replicate_zero, List.append_nil]; exact HW.out⟩
    case round =>
      obtain ⟨j, rfl, hj, hg, hWj⟩ := hrel
      have HWJ := Lib.hid hWj; have HG := Lib.hid hg
      clear hWj hg
      by_cases hlt : j < 18
      · have hlt' : (j : Int) < 18 := by omega
        go_wp2_with fail
        refine (zero_any w0 wr ⟨T, N, B ++ List.replicate j 0⟩ (by show (B ++ List.replicate j 0).length ≤ _; rw [List.length_append, List.length_replicate]; omega) HWJ.out).mono ?_; rintro e w2 (⟨s', hs', rfl, hW2⟩ | ⟨hs', _⟩)
        · obtain rfl := Option.some.inj hs'
          have HW2 := Lib.hid (show IsW w0 w2 ⟨T, N, B ++ List.replicate (j + 1) 0⟩ by rw [List.replicate_succ', ← List.append_assoc]; exact hW2)
          clear hW2 hs'
          go_wp2_with fail
          go_roundg (18 - (j + 1))
          case measure => have := HG.out; omega
          case rel => exact ⟨j + 1, by go_num, by omega, rfl, HW2.out⟩
        · cases hs'
      · obtain rfl : j = 18 := by omega
        go_wp2_with fail
        go_end0
        exact .inl ⟨_, rfl, rfl, HWJ.out⟩
  · go_wp2_with fail
    exact ⟨rfl, .inr ⟨rfl, rfl, hB⟩⟩

set_option maxRecDepth 100000 in
set_option maxHeartbeats 8000000 in
theorem value_any (w0 w : World) (s : WS) (hr : room s ≤ 800000) (h : IsW w0 w s) :
    Calls Tryd.prog 60 #[.pointer (some ⟨w0.heap.size, 0, none⟩)] w (WOut w0 (wValue s)) := by
  have HN := Lib.hid (number_any w0 w s (-1) 10000 4 (by omega) (by omega) (by omega) (Nat.le_trans (room_B s) (by omega)) h)
  clear h
  obtain ⟨R, hR⟩ : ∃ R, R = wValue s := ⟨_, rfl⟩
  rw [← hR]
  unfold wValue at hR
  generalize hx : wNumber (-1) 10000 4 s = r at HN hR
  have HX := Lib.hid hx; have HR := Lib.hid hR
  clear hx hR
  go_enter Tryd.func60, Tryd.ntmps60
  go_wp2_with fail
  refine HN.out.mono ?_; rintro e w1 (⟨n, s1, rfl, rfl, hW⟩ | ⟨rfl, rfl, hB⟩)
  · have HW := Lib.hid hW
    have hs1 : room s1 ≤ 800000 := Nat.le_trans (room_number HX.out (by omega)).1 hr
    have HR := Lib.hid (show R = if n < 0 then some s1 else wRaw n s1 from HR.out)
    clear hW HX HN
    by_cases hn : n < 0
    · have HR := Lib.hid (show R = some s1 by rw [HR.out, if_pos hn])
      go_wp2_with fail
      go_end0
      exact .inl ⟨_, HR.out, rfl, HW.out⟩
    · have HR := Lib.hid (show R = wRaw n s1 by rw [HR.out, if_neg hn])
      have hn' : 0 ≤ n := by omega
      have HNT := Lib.hid (nexttext_any w0 w1 s1 HW.out)
      obtain ⟨T, N, B⟩ := s1
      clear hn HW
      cases T with
      | nil =>
        go_wp2_with fail
        refine HNT.out.mono ?_; rintro e w2 (⟨t, ts, hT, _⟩ | ⟨_, rfl, hB⟩)
        · cases hT
        · go_wp2_with fail
          exact ⟨rfl, .inr ⟨HR.out, rfl, hB⟩⟩
      | cons t ts =>
        have hsz := text_size (s := ⟨t :: ts, N, B⟩) (t := t) (ts := ts) rfl
        have hBT : B.length + t.length ≤ 800000 := by have hsz : B.length + t.length + 19 ≤ room ⟨t :: ts, N, B⟩ := hsz; omega
        have HR := Lib.hid (show R = if (t.length : Int) = n then some ⟨ts, N, B ++ t⟩ else none from HR.out)
        clear hsz hs1
        go_wp2_with fail
        refine HNT.out.mono ?_; rintro e w2 (⟨t', ts', hT, rfl, hW⟩ | ⟨hT, _⟩)
        · obtain ⟨rfl, rfl⟩ := List.cons.inj hT
          obtain ⟨tv, nv, bv, hW⟩ := hW
          have HW := Lib.hid hW
          clear hT hW HNT
          by_cases hl : (t.length : Int) = n
          · have HR := Lib.hid (show R = some ⟨ts, N, B ++ t⟩ by rw [HR.out, if_pos hl])
            subst hl
            obtain ⟨a, c, rfl⟩ := HW.out.room_blocks
            have c2 := HW.out.c2
            have f2 := HW.out.f2
            obtain ⟨a', c', w4, hrun, e2, g2, hz1, hP⟩ := put_text ⟨t.toArray⟩ (by show B.length ≤ _; omega) (by rw [bsize]; omega) HW.out
            have HP := Lib.hid hP
            have HRUN := Lib.hid hrun
            have hbs := bsize t
            have HBS := Lib.hid hbs
            clear hP hrun hbs
            go_wp2_with fail
            refine (demand_ok _).mono ?_; rintro e w3 ⟨rfl, rfl⟩
            go_wp2_with (at_builtin; refine wpList_append_eq rfl (.tmp 19) (.tmp 20) 69 9 rfl _ _ rfl rfl _ _ HRUN.out ?_)
            clear c2 f2
            go_wp2_with fail
            go_end0
            exact .inl ⟨_, HR.out, rfl, _, _, _, HP.out⟩
          · have HR := Lib.hid (show R = none by rw [HR.out, if_neg hl])
            have hl2 : (((t.length : Nat) : Int) == n) = false := by rw [beq_eq_false_iff_ne]; exact hl
            clear hl
            go_wp2_with fail
            refine (demand_no _).mono ?_; rintro e w3 ⟨rfl, rfl⟩
            go_wp2_with fail
            exact ⟨rfl, .inr ⟨HR.out, rfl, HW.out.below⟩⟩
        · cases hT
  · go_wp2_with fail
    exact ⟨rfl, .inr ⟨HR.out, rfl, hB⟩⟩
end Go.Proofs.YtfdffiphlpeegaaDoor
