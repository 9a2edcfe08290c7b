/- A number, written. -/
import Derived.Test.YtfdffiphlpeegaaDoorMW
import Derived.Deep.RegionLaw
import Derived.Deep.RegionWith
import Derived.Deep.DeepCutAuto
namespace Go.Proofs.YtfdffiphlpeegaaDoor
open Go.RowKit Go.Lib Go.WideShapes

theorem WAt.grewD {w0 w w1 : World} {s : WS} {tv nv bv : Value} {o : Obj} (h : WAt w0 w s tv nv bv) (hg : (w.alloc o).drew.grownBy w1 bv.ownBlock) : Below (w0.heap.size + 1) w w1 :=
  below_grown ((Below.refl (w0.heap.size + 1) w).alloc h.lt _).drew (by show _ ≤ (w.alloc o).heap.size; rw [World.size_alloc]; exact Nat.le_succ_of_le h.lt) hg (fun q hq => (h.body.lt q hq).1)
theorem byte_wrap (n : Int) (i : Nat) : IntKind.u8.wrap (n / (256 ^ i : Nat)) = ((byteAt n i).toNat : Nat) := by
  unfold byteAt
  rw [UInt8.toNat_ofNat']
  have h1 : 0 ≤ n / (256 ^ i : Nat) % 256 := Int.emod_nonneg _ (by decide)
  have h2 : n / (256 ^ i : Nat) % 256 < 256 := Int.emod_lt_of_pos _ (by decide)
  have e : IntKind.u8.wrap (n / (256 ^ i : Nat)) = n / (256 ^ i : Nat) % 256 := by
    simp [IntKind.wrap, IntKind.bits, IntKind.signed]
  rw [e]
  omega

set_option maxRecDepth 100000 in
set_option maxHeartbeats 8000000 in
theorem number_any (w0 w : World) (s : WS) (l m : Int) (k : Nat) (hk : 1 ≤ k ∧ k ≤ 4) (hl : -2147483648 ≤ l) (hm : m ≤ 2147483647) (hr : s.B.length ≤ 900000) (h : IsW w0 w s) :
    Calls Tryd.prog 54 #[.pointer (some ⟨w0.heap.size, 0, none⟩), .int .i64 l, .int .i64 m, .int .i64 k] w (WOutN w0 (wNumber l m k s)) := by
  obtain ⟨i0, hi, y0, y1, y2⟩ := info_parts info_u8
  have HN := Lib.hid (nextnum_any w0 w s l m h)
  obtain ⟨hk1, hk4⟩ := hk
  clear h
  unfold wNumber
  generalize hx : wNum l m s = r at HN ⊢
  have HX := Lib.hid hx
  clear hx
  go_enter Tryd.func54, Tryd.ntmps54
  go_wp2_with fail
  refine HN.out.mono ?_; rintro e w1 (⟨n, s1, rfl, rfl, hW⟩ | ⟨rfl, rfl, hB⟩)
  · have HW := Lib.hid hW
    have hs1 := room_num HX.out
    have hB1 : s1.B.length ≤ 900000 := by rw [hs1.1]; exact hr
    have hn : l ≤ n ∧ n ≤ m := by
      have := HX.out
      unfold wNum at this
      cases hN : s.N with
      | nil => rw [hN] at this; cases this
      | cons x ns =>
        rw [hN] at this
        simp only at this
        split at this
        · rename_i hc
          have e := (Prod.mk.inj (Option.some.inj this)).1
          subst e; exact hc
        · cases this
    obtain ⟨hn1, hn2⟩ := hn
    have hn3 : -2147483648 ≤ n := by omega
    have hn4 : n ≤ 2147483647 := by omega
    clear hW hs1 HX HN hn1 hn2 hl hm
    obtain ⟨T1, N1, B1⟩ := s1
    have hB1 : B1.length ≤ 900000 := hB1
    go_wp2_with fail
    go_loopg [10] k (fun g i wr => ∃ (j : Nat) (P : Bs), i = .int .i64 ((j : Int) - 1) ∧ j ≤ k ∧ g = j ∧ P ++ be j n = be k n ∧ IsW w0 wr ⟨T1, N1, B1 ++ P⟩)
    case atStart => exact ⟨k, [], rfl, Nat.le_refl _, rfl, rfl, by rw [List.append_nil]; exact HW.out⟩
    case round =>
      obtain ⟨j, P, rfl, hj, hg, hP, hWP⟩ := hrel
      have HP := Lib.hid hP; have HG := Lib.hid hg
      obtain ⟨tv, nv, bv, hWP⟩ := hWP
      obtain ⟨a, c, rfl⟩ := hWP.room_blocks
      have hPl : P.length ≤ 4 := by have := congrArg List.length hP; rw [List.length_append, be_length, be_length] at this; omega
      obtain ⟨BL, hBL⟩ : ∃ BL : Nat, BL = (B1 ++ P).length := ⟨_, rfl⟩
      have hBl : BL ≤ 900004 := by rw [hBL, List.length_append]; omega
      have HBL := Lib.hid hBL
      rw [show (WS.mk T1 N1 (B1 ++ P)).B.length = BL from hBL.symm] at hWP
      have HBODY := Lib.hid (show wr.ownsRow (w0.heap.size + 1) 5 1 (.slice a BL c) BL (bcells (B1 ++ P)) by have := hWP.body; rw [show (WS.mk T1 N1 (B1 ++ P)).B.length = BL from hBL.symm] at this; exact this)
      have c2 := hWP.c2
      have f2 := hWP.f2
      have hz := hWP.lt
      have HWP := Lib.hid hWP
      clear hP hg hWP hBL
      by_cases h0 : 1 ≤ j
      · rcases (by omega : j = 1 ∨ j = 2 ∨ j = 3 ∨ j = 4) with rfl | rfl | rfl | rfl
        · have hw : IntKind.i64.wrap 0 = 0 := rfl
          have HV := Lib.hid (show IntKind.u8.wrap n = ((byteAt n 0).toNat : Nat) from by have := byte_wrap n 0; rw [show ((256 ^ 0 : Nat) : Int) = 1 from rfl, Int.ediv_one] at this; exact this)
          go_upto_region 5 with (fail)
          go_region_law (refine step_append_own rfl (.tmp 25) (.tmp 31) 69 rfl (w0.heap.size + 1) 5 i0 (.int .u8 0) 1 1 Tryd.underlying69 hi y0 y1 y2 rfl (by decide) (.slice a BL c) BL (bcells (B1 ++ P)) (by simp [Act.eval]) (HBODY.out.drew.alloc _) ⟨wr.heap.size, 0, none⟩ 1 1 [.int .u8 (IntKind.u8.wrap n)] (by simp [Act.eval]) rfl ?c1 ?c2 ?c3 ?c4 ?c5 ?_; (case c1 => (intro j u h; rw [add_plain, Nat.zero_add, ← h]; exact (World.cell?_alloc_new wr _ _ j).trans (by simp))); (case c2 => (intro u hu; simp at hu; rcases hu with rfl; rfl)); (case c3 => (unfold maxLen; omega)); (case c4 => omega); (case c5 => (first | omega | (simp; omega))); intro v' w5 hO5 hg5; obtain ⟨a', c', rfl⟩ := ownsRow_form hO5; have HB5 := Lib.hid (HWP.out.grewD hg5); obtain ⟨e2, g2, hz1⟩ := HWP.out.after HB5.out; rw [HV.out] at hO5; have HP5 := Lib.hid (HWP.out.put2 (B := (B1 ++ P) ++ [byteAt n 0]) HB5.out (by rw [bcells_append, List.length_append, ← HBL.out]; exact hO5)); clear hO5 hg5)
          all_goals
            go_wp2_with fail
            go_roundg 0
            case measure => have := HG.out; omega
            case rel => exact ⟨0, P ++ [byteAt n 0], by first | rfl | (congr 1; omega) | go_num, by omega, rfl, by rw [List.append_assoc]; exact HP.out, _, _, _, by rw [← List.append_assoc]; exact HP5.out⟩
        · have hw : IntKind.i64.wrap 8 = 8 := rfl
          have HV := Lib.hid (show IntKind.u8.wrap (n / 256) = ((byteAt n 1).toNat : Nat) from byte_wrap n 1)
          go_upto_region 5 with (fail)
          go_region_law (refine step_append_own rfl (.tmp 25) (.tmp 31) 69 rfl (w0.heap.size + 1) 5 i0 (.int .u8 0) 1 1 Tryd.underlying69 hi y0 y1 y2 rfl (by decide) (.slice a BL c) BL (bcells (B1 ++ P)) (by simp [Act.eval]) (HBODY.out.drew.alloc _) ⟨wr.heap.size, 0, none⟩ 1 1 [.int .u8 (IntKind.u8.wrap (n / 256))] (by simp [Act.eval]) rfl ?c1 ?c2 ?c3 ?c4 ?c5 ?_; (case c1 => (intro j u h; rw [add_plain, Nat.zero_add, ← h]; exact (World.cell?_alloc_new wr _ _ j).trans (by simp))); (case c2 => (intro u hu; simp at hu; rcases hu with rfl; rfl)); (case c3 => (unfold maxLen; omega)); (case c4 => omega); (case c5 => (first | omega | (simp; omega))); intro v' w5 hO5 hg5; obtain ⟨a', c', rfl⟩ := ownsRow_form hO5; have HB5 := Lib.hid (HWP.out.grewD hg5); obtain ⟨e2, g2, hz1⟩ := HWP.out.after HB5.out; rw [HV.out] at hO5; have HP5 := Lib.hid (HWP.out.put2 (B := (B1 ++ P) ++ [byteAt n 1]) HB5.out (by rw [bcells_append, List.length_append, ← HBL.out]; exact hO5)); clear hO5 hg5)
          all_goals
            go_wp2_with fail
            go_roundg 1
            case measure => have := HG.out; omega
            case rel => exact ⟨1, P ++ [byteAt n 1], by first | rfl | (congr 1; omega) | go_num, by omega, rfl, by rw [List.append_assoc]; exact HP.out, _, _, _, by rw [← List.append_assoc]; exact HP5.out⟩
        · have hw : IntKind.i64.wrap 16 = 16 := rfl
          have HV := Lib.hid (show IntKind.u8.wrap (n / 65536) = ((byteAt n 2).toNat : Nat) from byte_wrap n 2)
          go_upto_region 5 with (fail)
          go_region_law (refine step_append_own rfl (.tmp 25) (.tmp 31) 69 rfl (w0.heap.size + 1) 5 i0 (.int .u8 0) 1 1 Tryd.underlying69 hi y0 y1 y2 rfl (by decide) (.slice a BL c) BL (bcells (B1 ++ P)) (by simp [Act.eval]) (HBODY.out.drew.alloc _) ⟨wr.heap.size, 0, none⟩ 1 1 [.int .u8 (IntKind.u8.wrap (n / 65536))] (by simp [Act.eval]) rfl ?c1 ?c2 ?c3 ?c4 ?c5 ?_; (case c1 => (intro j u h; rw [add_plain, Nat.zero_add, ← h]; exact (World.cell?_alloc_new wr _ _ j).trans (by simp))); (case c2 => (intro u hu; simp at hu; rcases hu with rfl; rfl)); (case c3 => (unfold maxLen; omega)); (case c4 => omega); (case c5 => (first | omega | (simp; omega))); intro v' w5 hO5 hg5; obtain ⟨a', c', rfl⟩ := ownsRow_form hO5; have HB5 := Lib.hid (HWP.out.grewD hg5); obtain ⟨e2, g2, hz1⟩ := HWP.out.after HB5.out; rw [HV.out] at hO5; have HP5 := Lib.hid (HWP.out.put2 (B := (B1 ++ P) ++ [byteAt n 2]) HB5.out (by rw [bcells_append, List.length_append, ← HBL.out]; exact hO5)); clear hO5 hg5)
          all_goals
            go_wp2_with fail
            go_roundg 2
            case measure => have := HG.out; omega
            case rel => exact ⟨2, P ++ [byteAt n 2], by first | rfl | (congr 1; omega) | go_num, by omega, rfl, by rw [List.append_assoc]; exact HP.out, _, _, _, by rw [← List.append_assoc]; exact HP5.out⟩
        · have hw : IntKind.i64.wrap 24 = 24 := rfl
          have HV := Lib.hid (show IntKind.u8.wrap (n / 16777216) = ((byteAt n 3).toNat : Nat) from byte_wrap n 3)
          go_upto_region 5 with (fail)
          go_region_law (refine step_append_own rfl (.tmp 25) (.tmp 31) 69 rfl (w0.heap.size + 1) 5 i0 (.int .u8 0) 1 1 Tryd.underlying69 hi y0 y1 y2 rfl (by decide) (.slice a BL c) BL (bcells (B1 ++ P)) (by simp [Act.eval]) (HBODY.out.drew.alloc _) ⟨wr.heap.size, 0, none⟩ 1 1 [.int .u8 (IntKind.u8.wrap (n / 16777216))] (by simp [Act.eval]) rfl ?c1 ?c2 ?c3 ?c4 ?c5 ?_; (case c1 => (intro j u h; rw [add_plain, Nat.zero_add, ← h]; exact (World.cell?_alloc_new wr _ _ j).trans (by simp))); (case c2 => (intro u hu; simp at hu; rcases hu with rfl; rfl)); (case c3 => (unfold maxLen; omega)); (case c4 => omega); (case c5 => (first | omega | (simp; omega))); intro v' w5 hO5 hg5; obtain ⟨a', c', rfl⟩ := ownsRow_form hO5; have HB5 := Lib.hid (HWP.out.grewD hg5); obtain ⟨e2, g2, hz1⟩ := HWP.out.after HB5.out; rw [HV.out] at hO5; have HP5 := Lib.hid (HWP.out.put2 (B := (B1 ++ P) ++ [byteAt n 3]) HB5.out (by rw [bcells_append, List.length_append, ← HBL.out]; exact hO5)); clear hO5 hg5)
          all_goals
            go_wp2_with fail
            go_roundg 3
            case measure => have := HG.out; omega
            case rel => exact ⟨3, P ++ [byteAt n 3], by first | rfl | (congr 1; omega) | go_num, by omega, rfl, by rw [List.append_assoc]; exact HP.out, _, _, _, by rw [← List.append_assoc]; exact HP5.out⟩
      · obtain rfl : j = 0 := by omega
        go_wp2_with fail
        go_ret
        refine .inl ⟨n, _, rfl, rfl, ?_⟩
        have e : P = be k n := by have := HP.out; rw [show be 0 n = [] from rfl, List.append_nil] at this; exact this
        rw [← e]
        exact ⟨_, _, _, HWP.out⟩
  · go_wp2_with fail
    exact ⟨rfl, .inr ⟨rfl, rfl, hB⟩⟩
end Go.Proofs.YtfdffiphlpeegaaDoor
