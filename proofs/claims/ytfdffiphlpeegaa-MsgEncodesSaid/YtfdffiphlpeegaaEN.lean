/- The document's own writer: a text that ends, a number, how many. -/
import Derived.Test.YtfdffiphlpeegaaEW
import Derived.Test.YtfdffiphlpeegaaMNum
import Derived.Test.YtfdffiphlpeegaaMRM
namespace Go.Proofs.Ytfdffiphlpeegaa
open Go.RowKit Go.Lib Go.WideShapes

theorem cat_text (B : Bs) (t : ByteArray) : (⟨B.toArray⟩ : ByteArray) ++ t ++ { data := #[0] } = ⟨(B ++ (bytes t ++ [0])).toArray⟩ := by
  apply ByteArray.ext; apply Array.toList_inj.1; simp [bytes]
theorem cat_two (A B : Bs) : (⟨A.toArray⟩ : ByteArray) ++ ⟨B.toArray⟩ = ⟨(A ++ B).toArray⟩ := by
  apply ByteArray.ext; apply Array.toList_inj.1; simp

set_option maxHeartbeats 4000000 in
theorem rended_any (w0 w : World) (s : XS) (t : ByteArray) (ht : t.size ≤ 1000000) (hr : s.B.length ≤ 1000000) (h : IsR w0 w s) :
    Calls Try.prog 28 #[.pointer (some ⟨w0.heap.size, 0, none⟩), .string t] w (ROut w0 (xEnded (bytes t) s)) := by
  obtain ⟨tv, nv, hW⟩ := h
  have c2 := hW.c2
  have f2 := hW.f2
  have c3 := hW.c3
  have f3 := hW.f3
  have HW := Lib.hid hW
  have hsz : (⟨s.B.toArray⟩ : ByteArray).size ≤ 1000000 := by rw [bsize]; exact hr
  have HZ := Lib.hid (rzero_any w t ht)
  clear hW
  by_cases h0 : (0 : UInt8) ∈ bytes t
  · have HP := Lib.hid ((HW.out.put3 true).put2 (s.B ++ (bytes t ++ [0])))
    rw [← cat_text] at HP
    have HR := Lib.hid (show xEnded (bytes t) s = { s with bad := true, B := s.B ++ (bytes t ++ [0]) } by unfold xEnded; rw [decide_eq_true h0, Bool.or_true])
    rw [HR.out]
    rw [decide_eq_true h0] at HZ
    clear HR h0
    go_enter Try.func28, Try.ntmps28
    go_wp2_with fail
    refine HZ.out.mono ?_; rintro e w1 ⟨rfl, rfl⟩
    go_wp2_with fail
    go_end0
    exact ⟨rfl, _, _, HP.out⟩
  · have HP := Lib.hid (HW.out.put2 (s.B ++ (bytes t ++ [0])))
    rw [← cat_text] at HP
    have HR := Lib.hid (show xEnded (bytes t) s = { s with B := s.B ++ (bytes t ++ [0]) } by unfold xEnded; rw [decide_eq_false h0, Bool.or_false])
    rw [HR.out]
    rw [decide_eq_false h0] at HZ
    clear HR h0
    go_enter Try.func28, Try.ntmps28
    go_wp2_with fail
    refine HZ.out.mono ?_; rintro e w1 ⟨rfl, rfl⟩
    go_wp2_with fail
    go_end0
    exact ⟨rfl, _, _, HP.out⟩

set_option maxRecDepth 100000 in
set_option maxHeartbeats 8000000 in
theorem rnumber_any (w0 w : World) (s : XS) (n l m : Int) (k : Nat) (hk : 1 ≤ k ∧ k ≤ 4) (hl : -2147483648 ≤ l) (hm : m ≤ 2147483647) (hr : s.B.length ≤ 1000000) (h : IsR w0 w s) :
    Calls Try.prog 30 #[.pointer (some ⟨w0.heap.size, 0, none⟩), .int .i64 n, .int .i64 k, .int .i64 l, .int .i64 m] w (ROut w0 (xNumber n k l m s)) := by
  obtain ⟨i0, hi, y0, y1, y2⟩ := info_parts info_u8
  obtain ⟨hk1, hk4⟩ := hk
  obtain ⟨tv, nv, hW⟩ := h
  have c3 := hW.c3
  have f3 := hW.f3
  have HW := Lib.hid hW
  clear hW
  by_cases hn : l ≤ n ∧ n ≤ m
  · have HR := Lib.hid (show xNumber n k l m s = { s with B := s.B ++ be k n } from if_pos hn)
    rw [HR.out]
    obtain ⟨hn1, hn2⟩ := hn
    have hn3 : -2147483648 ≤ n := by omega
    have hn4 : n ≤ 2147483647 := by omega
    have q1 : ¬ n < l := by omega
    have q2 : ¬ m < n := by omega
    have HQ := Lib.hid q2
    clear HR
    go_enter Try.func30, Try.ntmps30
    go_wp2_with fail
    clear q1 q2 hn1 hn2
    go_loopg [10, 11] k (fun g v i wr => ∃ (j : Nat) (P : Bs), i = .int .i64 ((j : Int) - 1) ∧ j ≤ k ∧ g = j ∧ P ++ be j n = be k n ∧ Below w.heap.size w wr ∧ wr.ownsRow w.heap.size 5 1 v P.length (bcells P))
    case atStart => exact ⟨k, [], by first | rfl | go_num, Nat.le_refl _, rfl, rfl, Below.refl _ _, ⟨rfl, .inl ⟨rfl, rfl⟩⟩⟩
    case round =>
      obtain ⟨j, P, rfl, hj, hg, hP, hB, hO⟩ := hrel
      have HP := Lib.hid hP; have HG := Lib.hid hg; have HB := Lib.hid hB; have HO := Lib.hid hO
      have hPl : P.length ≤ 4 := by have := congrArg List.length hP; rw [List.length_append, be_length, be_length] at this; omega
      obtain ⟨pa, pc, rfl⟩ := ownsRow_form hO
      obtain ⟨PL, hPL⟩ : ∃ PL : Nat, PL = P.length := ⟨_, rfl⟩
      rw [← hPL] at HO hPl
      rw [← hPL]
      have HPL := Lib.hid hPL
      have hz := HB.out.size
      clear hP hg hB hO hPL
      by_cases h0 : 1 ≤ j
      · rcases (by omega : j = 1 ∨ j = 2 ∨ j = 3 ∨ j = 4) with rfl | rfl | rfl | rfl
        · have hw : IntKind.i64.wrap 0 = 0 := rfl
          have HV := Lib.hid (show n % 256 = ((byteAt n 0).toNat : Int) from by have := byteAt_toNat n 0; rw [show ((256 ^ 0 : Nat) : Int) = 1 from rfl, Int.ediv_one] at this; exact this.symm)
          go_wp2_with (at_builtin; refine wpList_append_at _ rfl (.tmp 29) (.tmp 35) 62 rfl w.heap.size 5 i0 (.int .u8 0) 1 1 Try.underlying62 hi y0 y1 y2 rfl (by decide) (.slice pa PL pc) PL (bcells P) rfl (HO.out.alloc _) ⟨wr.heap.size, 0, none⟩ 1 1 [.int .u8 (n % 256)] rfl rfl (fun j u h => by rw [add_plain, Nat.zero_add, ← h]; exact (World.cell?_alloc_new wr _ _ j).trans (by simp)) (by intro u hu; simp at hu; rcases hu with rfl; rfl) (by unfold maxLen; omega) (by omega) (by simp; omega) ?_)
          intro v' w5 hO5 hg5 _
          rw [HV.out] at hO5
          have HB5 := Lib.hid (below_grown (HB.out.alloc hz _) (by rw [World.size_alloc]; omega) hg5 (fun q hq => (HO.out.lt q hq).1))
          have HO5 := Lib.hid (show w5.ownsRow w.heap.size 5 1 v' (P ++ [byteAt n 0]).length (bcells (P ++ [byteAt n 0])) by rw [bcells_append, List.length_append, ← HPL.out]; exact hO5)
          clear hO5 hg5
          go_wp2_with fail
          go_roundg 0
          case measure => have := HG.out; omega
          case rel => exact ⟨0, P ++ [byteAt n 0], by first | rfl | (congr 1; omega) | go_num, by omega, rfl, by rw [List.append_assoc]; exact HP.out, HB5.out, HO5.out⟩
        · have hw : IntKind.i64.wrap 8 = 8 := rfl
          have HV := Lib.hid (show (n / 256) % 256 = ((byteAt n 1).toNat : Int) from (byteAt_toNat n 1).symm)
          go_wp2_with (at_builtin; refine wpList_append_at _ rfl (.tmp 29) (.tmp 35) 62 rfl w.heap.size 5 i0 (.int .u8 0) 1 1 Try.underlying62 hi y0 y1 y2 rfl (by decide) (.slice pa PL pc) PL (bcells P) rfl (HO.out.alloc _) ⟨wr.heap.size, 0, none⟩ 1 1 [.int .u8 ((n / 256) % 256)] rfl rfl (fun j u h => by rw [add_plain, Nat.zero_add, ← h]; exact (World.cell?_alloc_new wr _ _ j).trans (by simp)) (by intro u hu; simp at hu; rcases hu with rfl; rfl) (by unfold maxLen; omega) (by omega) (by simp; omega) ?_)
          intro v' w5 hO5 hg5 _
          rw [HV.out] at hO5
          have HB5 := Lib.hid (below_grown (HB.out.alloc hz _) (by rw [World.size_alloc]; omega) hg5 (fun q hq => (HO.out.lt q hq).1))
          have HO5 := Lib.hid (show w5.ownsRow w.heap.size 5 1 v' (P ++ [byteAt n 1]).length (bcells (P ++ [byteAt n 1])) by rw [bcells_append, List.length_append, ← HPL.out]; exact hO5)
          clear hO5 hg5
          go_wp2_with fail
          go_roundg 1
          case measure => have := HG.out; omega
          case rel => exact ⟨1, P ++ [byteAt n 1], by first | rfl | (congr 1; omega) | go_num, by omega, rfl, by rw [List.append_assoc]; exact HP.out, HB5.out, HO5.out⟩
        · have hw : IntKind.i64.wrap 16 = 16 := rfl
          have HV := Lib.hid (show (n / 65536) % 256 = ((byteAt n 2).toNat : Int) from (byteAt_toNat n 2).symm)
          go_wp2_with (at_builtin; refine wpList_append_at _ rfl (.tmp 29) (.tmp 35) 62 rfl w.heap.size 5 i0 (.int .u8 0) 1 1 Try.underlying62 hi y0 y1 y2 rfl (by decide) (.slice pa PL pc) PL (bcells P) rfl (HO.out.alloc _) ⟨wr.heap.size, 0, none⟩ 1 1 [.int .u8 ((n / 65536) % 256)] rfl rfl (fun j u h => by rw [add_plain, Nat.zero_add, ← h]; exact (World.cell?_alloc_new wr _ _ j).trans (by simp)) (by intro u hu; simp at hu; rcases hu with rfl; rfl) (by unfold maxLen; omega) (by omega) (by simp; omega) ?_)
          intro v' w5 hO5 hg5 _
          rw [HV.out] at hO5
          have HB5 := Lib.hid (below_grown (HB.out.alloc hz _) (by rw [World.size_alloc]; omega) hg5 (fun q hq => (HO.out.lt q hq).1))
          have HO5 := Lib.hid (show w5.ownsRow w.heap.size 5 1 v' (P ++ [byteAt n 2]).length (bcells (P ++ [byteAt n 2])) by rw [bcells_append, List.length_append, ← HPL.out]; exact hO5)
          clear hO5 hg5
          go_wp2_with fail
          go_roundg 2
          case measure => have := HG.out; omega
          case rel => exact ⟨2, P ++ [byteAt n 2], by first | rfl | (congr 1; omega) | go_num, by omega, rfl, by rw [List.append_assoc]; exact HP.out, HB5.out, HO5.out⟩
        · have hw : IntKind.i64.wrap 24 = 24 := rfl
          have HV := Lib.hid (show (n / 16777216) % 256 = ((byteAt n 3).toNat : Int) from (byteAt_toNat n 3).symm)
          go_wp2_with (at_builtin; refine wpList_append_at _ rfl (.tmp 29) (.tmp 35) 62 rfl w.heap.size 5 i0 (.int .u8 0) 1 1 Try.underlying62 hi y0 y1 y2 rfl (by decide) (.slice pa PL pc) PL (bcells P) rfl (HO.out.alloc _) ⟨wr.heap.size, 0, none⟩ 1 1 [.int .u8 ((n / 16777216) % 256)] rfl rfl (fun j u h => by rw [add_plain, Nat.zero_add, ← h]; exact (World.cell?_alloc_new wr _ _ j).trans (by simp)) (by intro u hu; simp at hu; rcases hu with rfl; rfl) (by unfold maxLen; omega) (by omega) (by simp; omega) ?_)
          intro v' w5 hO5 hg5 _
          rw [HV.out] at hO5
          have HB5 := Lib.hid (below_grown (HB.out.alloc hz _) (by rw [World.size_alloc]; omega) hg5 (fun q hq => (HO.out.lt q hq).1))
          have HO5 := Lib.hid (show w5.ownsRow w.heap.size 5 1 v' (P ++ [byteAt n 3]).length (bcells (P ++ [byteAt n 3])) by rw [bcells_append, List.length_append, ← HPL.out]; exact hO5)
          clear hO5 hg5
          go_wp2_with fail
          go_roundg 3
          case measure => have := HG.out; omega
          case rel => exact ⟨3, P ++ [byteAt n 3], by first | rfl | (congr 1; omega) | go_num, by omega, rfl, by rw [List.append_assoc]; exact HP.out, HB5.out, HO5.out⟩
      · obtain rfl : j = 0 := by omega
        have hP4 : P.length ≤ 4 := by rw [← HPL.out]; exact hPl
        have hPe : P = be k n := by have := HP.out; rw [show be 0 n = [] from rfl, List.append_nil] at this; exact this
        have HWR := Lib.hid (HW.out.grow (HB.out.mono (by have := HW.out.lt; omega)))
        have c2 := HWR.out.c2
        have f2 := HWR.out.f2
        have hcv : (convert 62 9 (.slice pa PL pc)).run Try.prog wr = .ok (.string ⟨P.toArray⟩) wr := own_text HO.out HPL.out.symm
        have hcw : (convert 62 9 (.slice pa PL pc)).run Try.prog wr.drew = .ok (.string ⟨P.toArray⟩) wr.drew := own_text HO.out.drew HPL.out.symm
        have HPP := Lib.hid (HWR.out.put2 (s.B ++ P))
        rw [← cat_two] at HPP
        have HPE := Lib.hid hPe
        clear hPe
        go_upto_region 7 with (fail)
        go_region
        all_goals
          go_end0
          rw [← HPE.out]
          exact ⟨rfl, _, _, HPP.out.grow (Below.refl _ _).drew⟩
  · have HR := Lib.hid (show xNumber n k l m s = { s with bad := true } from if_neg hn)
    rw [HR.out]
    have HP := Lib.hid (HW.out.put3 true)
    clear HR
    by_cases h1 : n < l
    · clear hn
      go_enter Try.func30, Try.ntmps30
      go_wp2_with fail
      go_end0
      exact ⟨rfl, _, _, HP.out⟩
    · have h2 : m < n := by omega
      clear hn
      go_enter Try.func30, Try.ntmps30
      go_wp2_with fail
      go_end0
      exact ⟨rfl, _, _, HP.out⟩
end Go.Proofs.Ytfdffiphlpeegaa
