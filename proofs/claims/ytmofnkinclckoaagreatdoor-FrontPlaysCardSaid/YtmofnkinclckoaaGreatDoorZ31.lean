/- Contracts and mathematics: EN, ER, ER99, ER108, ER109. -/
import Derived.Test.YtmofnkinclckoaaGreatDoorZ30
import Derived.Test.YtmofnkinclckoaaGreatDoorZ2
import Derived.Test.YtmofnkinclckoaaGreatDoorZ9
namespace Go.Proofs.YtmofnkinclckoaaGreatDoor
open Go.RowKit Go.Lib Go.WideShapes

theorem cat_text (B : Bs) (t : ByteArray) : (⟨B.toArray⟩ : ByteArray) ++ t ++ { data := #[0] } = ⟨(B ++ (bytes t ++ [0])).toArray⟩ := by
  apply ByteArray.ext; apply Array.toList_inj.1; simp [bytes]
theorem cat_two (A B : Bs) : (⟨A.toArray⟩ : ByteArray) ++ ⟨B.toArray⟩ = ⟨(A ++ B).toArray⟩ := by
  apply ByteArray.ext; apply Array.toList_inj.1; simp

set_option maxRecDepth 100000 in
set_option maxHeartbeats 4000000 in
theorem rended_any (w0 w : World) (s : XS) (t : ByteArray) (ht : t.size ≤ 1000000) (hr : s.B.length ≤ 1000000) (h : IsR w0 w s) :
    Calls Tryz.prog 78 #[.pointer (some ⟨w0.heap.size, 0, none⟩), .string t] w (ROut w0 (xEnded (bytes t) s)) := by
  obtain ⟨tv, nv, hW⟩ := h
  have c2 := hW.c2
  have f2 := hW.f2
  have c3 := hW.c3
  have f3 := hW.f3
  have HW := Lib.hid hW
  have hsz : (⟨s.B.toArray⟩ : ByteArray).size ≤ 1000000 := by rw [bsize]; exact hr
  have HZ := Lib.hid (rzero_any w t ht)
  clear hW
  by_cases h0 : (0 : UInt8) ∈ bytes t
  · have HP := Lib.hid ((HW.out.put3 true).put2 (s.B ++ (bytes t ++ [0])))
    rw [← cat_text] at HP
    have HR := Lib.hid (show xEnded (bytes t) s = { s with bad := true, B := s.B ++ (bytes t ++ [0]) } by unfold xEnded; rw [decide_eq_true h0, Bool.or_true])
    rw [HR.out]
    rw [decide_eq_true h0] at HZ
    clear HR h0
    go_enter Tryz.func78, Tryz.ntmps78
    go_wp2_with fail
    refine HZ.out.mono ?_; rintro e w1 ⟨rfl, rfl⟩
    go_wp2_with fail
    go_end0
    exact ⟨rfl, _, _, HP.out⟩
  · have HP := Lib.hid (HW.out.put2 (s.B ++ (bytes t ++ [0])))
    rw [← cat_text] at HP
    have HR := Lib.hid (show xEnded (bytes t) s = { s with B := s.B ++ (bytes t ++ [0]) } by unfold xEnded; rw [decide_eq_false h0, Bool.or_false])
    rw [HR.out]
    rw [decide_eq_false h0] at HZ
    clear HR h0
    go_enter Tryz.func78, Tryz.ntmps78
    go_wp2_with fail
    refine HZ.out.mono ?_; rintro e w1 ⟨rfl, rfl⟩
    go_wp2_with fail
    go_end0
    exact ⟨rfl, _, _, HP.out⟩

set_option maxRecDepth 100000 in
set_option maxHeartbeats 8000000 in
theorem rnumber_any (w0 w : World) (s : XS) (n l m : Int) (k : Nat) (hk : 1 ≤ k ∧ k ≤ 4) (hl : -2147483648 ≤ l) (hm : m ≤ 2147483647) (hr : s.B.length ≤ 1000000) (h : IsR w0 w s) :
    Calls Tryz.prog 80 #[.pointer (some ⟨w0.heap.size, 0, none⟩), .int .i64 n, .int .i64 k, .int .i64 l, .int .i64 m] w (ROut w0 (xNumber n k l m s)) := by
  obtain ⟨i0, hi, y0, y1, y2⟩ := info_parts info_u8
  obtain ⟨hk1, hk4⟩ := hk
  obtain ⟨tv, nv, hW⟩ := h
  have c3 := hW.c3
  have f3 := hW.f3
  have HW := Lib.hid hW
  clear hW
  by_cases hn : l ≤ n ∧ n ≤ m
  · have HR := Lib.hid (show xNumber n k l m s = { s with B := s.B ++ be k n } from if_pos hn)
    rw [HR.out]
    obtain ⟨hn1, hn2⟩ := hn
    have hn3 : -2147483648 ≤ n := by omega
    have hn4 : n ≤ 2147483647 := by omega
    have q1 : ¬ n < l := by omega
    have q2 : ¬ m < n := by omega
    have HQ := Lib.hid q2
    clear HR
    go_enter Tryz.func80, Tryz.ntmps80
    go_wp2_with fail
    clear q1 q2 hn1 hn2
    go_loopg [10, 11] k (fun g v i wr => ∃ (j : Nat) (P : Bs), i = .int .i64 ((j : Int) - 1) ∧ j ≤ k ∧ g = j ∧ P ++ be j n = be k n ∧ Below w.heap.size w wr ∧ wr.ownsRow w.heap.size 5 1 v P.length (bcells P))
    case atStart => exact ⟨k, [], by first | rfl | go_num, Nat.le_refl _, rfl, rfl, Below.refl _ _, ⟨rfl, .inl ⟨rfl, rfl⟩⟩⟩
    case round =>
      obtain ⟨j, P, rfl, hj, hg, hP, hB, hO⟩ := hrel
      have HP := Lib.hid hP; have HG := Lib.hid hg; have HB := Lib.hid hB; have HO := Lib.hid hO
      have hPl : P.length ≤ 4 := by have := congrArg List.length hP; rw [List.length_append, be_length, be_length] at this; omega
      obtain ⟨pa, pc, rfl⟩ := ownsRow_form hO
      obtain ⟨PL, hPL⟩ : ∃ PL : Nat, PL = P.length := ⟨_, rfl⟩
      rw [← hPL] at HO hPl
      rw [← hPL]
      have HPL := Lib.hid hPL
      have hz := HB.out.size
      clear hP hg hB hO hPL
      by_cases h0 : 1 ≤ j
      · rcases (by omega : j = 1 ∨ j = 2 ∨ j = 3 ∨ j = 4) with rfl | rfl | rfl | rfl
        · have hw : IntKind.i64.wrap 0 = 0 := rfl
          have HV := Lib.hid (show n % 256 = ((byteAt n 0).toNat : Int) from by have := byteAt_toNat n 0; rw [show ((256 ^ 0 : Nat) : Int) = 1 from rfl, Int.ediv_one] at this; exact this.symm)
          go_wp2_with (at_builtin; refine wpList_append_at _ rfl (.tmp 29) (.tmp 35) 65 rfl w.heap.size 5 i0 (.int .u8 0) 1 1 Tryz.underlying65 hi y0 y1 y2 rfl (by decide) (.slice pa PL pc) PL (bcells P) rfl (HO.out.alloc _) ⟨wr.heap.size, 0, none⟩ 1 1 [.int .u8 (n % 256)] rfl rfl (fun j u h => by rw [Go.WideShapes.add_plain, Nat.zero_add, ← h]; exact (World.cell?_alloc_new wr _ _ j).trans (by simp)) (by intro u hu; simp at hu; rcases hu with rfl; rfl) (by unfold maxLen; omega) (by omega) (by simp; omega) ?_)
          intro v' w5 hO5 hg5 _
          rw [HV.out] at hO5
          have HB5 := Lib.hid (below_grown (HB.out.alloc hz _) (by rw [World.size_alloc]; omega) hg5 (fun q hq => (HO.out.lt q hq).1))
          have HO5 := Lib.hid (show w5.ownsRow w.heap.size 5 1 v' (P ++ [byteAt n 0]).length (bcells (P ++ [byteAt n 0])) by rw [bcells_append, List.length_append, ← HPL.out]; exact hO5)
          clear hO5 hg5
          go_wp2_with fail
          go_roundg 0
          case measure => have := HG.out; omega
          case rel => exact ⟨0, P ++ [byteAt n 0], by first | rfl | (congr 1; omega) | go_num, by omega, rfl, by rw [List.append_assoc]; exact HP.out, HB5.out, HO5.out⟩
        · have hw : IntKind.i64.wrap 8 = 8 := rfl
          have HV := Lib.hid (show (n / 256) % 256 = ((byteAt n 1).toNat : Int) from (byteAt_toNat n 1).symm)
          go_wp2_with (at_builtin; refine wpList_append_at _ rfl (.tmp 29) (.tmp 35) 65 rfl w.heap.size 5 i0 (.int .u8 0) 1 1 Tryz.underlying65 hi y0 y1 y2 rfl (by decide) (.slice pa PL pc) PL (bcells P) rfl (HO.out.alloc _) ⟨wr.heap.size, 0, none⟩ 1 1 [.int .u8 ((n / 256) % 256)] rfl rfl (fun j u h => by rw [Go.WideShapes.add_plain, Nat.zero_add, ← h]; exact (World.cell?_alloc_new wr _ _ j).trans (by simp)) (by intro u hu; simp at hu; rcases hu with rfl; rfl) (by unfold maxLen; omega) (by omega) (by simp; omega) ?_)
          intro v' w5 hO5 hg5 _
          rw [HV.out] at hO5
          have HB5 := Lib.hid (below_grown (HB.out.alloc hz _) (by rw [World.size_alloc]; omega) hg5 (fun q hq => (HO.out.lt q hq).1))
          have HO5 := Lib.hid (show w5.ownsRow w.heap.size 5 1 v' (P ++ [byteAt n 1]).length (bcells (P ++ [byteAt n 1])) by rw [bcells_append, List.length_append, ← HPL.out]; exact hO5)
          clear hO5 hg5
          go_wp2_with fail
          go_roundg 1
          case measure => have := HG.out; omega
          case rel => exact ⟨1, P ++ [byteAt n 1], by first | rfl | (congr 1; omega) | go_num, by omega, rfl, by rw [List.append_assoc]; exact HP.out, HB5.out, HO5.out⟩
        · have hw : IntKind.i64.wrap 16 = 16 := rfl
          have HV := Lib.hid (show (n / 65536) % 256 = ((byteAt n 2).toNat : Int) from (byteAt_toNat n 2).symm)
          go_wp2_with (at_builtin; refine wpList_append_at _ rfl (.tmp 29) (.tmp 35) 65 rfl w.heap.size 5 i0 (.int .u8 0) 1 1 Tryz.underlying65 hi y0 y1 y2 rfl (by decide) (.slice pa PL pc) PL (bcells P) rfl (HO.out.alloc _) ⟨wr.heap.size, 0, none⟩ 1 1 [.int .u8 ((n / 65536) % 256)] rfl rfl (fun j u h => by rw [Go.WideShapes.add_plain, Nat.zero_add, ← h]; exact (World.cell?_alloc_new wr _ _ j).trans (by simp)) (by intro u hu; simp at hu; rcases hu with rfl; rfl) (by unfold maxLen; omega) (by omega) (by simp; omega) ?_)
          intro v' w5 hO5 hg5 _
          rw [HV.out] at hO5
          have HB5 := Lib.hid (below_grown (HB.out.alloc hz _) (by rw [World.size_alloc]; omega) hg5 (fun q hq => (HO.out.lt q hq).1))
          have HO5 := Lib.hid (show w5.ownsRow w.heap.size 5 1 v' (P ++ [byteAt n 2]).length (bcells (P ++ [byteAt n 2])) by rw [bcells_append, List.length_append, ← HPL.out]; exact hO5)
          clear hO5 hg5
          go_wp2_with fail
          go_roundg 2
          case measure => have := HG.out; omega
          case rel => exact ⟨2, P ++ [byteAt n 2], by first | rfl | (congr 1; omega) | go_num, by omega, rfl, by rw [List.append_assoc]; exact HP.out, HB5.out, HO5.out⟩
        · have hw : IntKind.i64.wrap 24 = 24 := rfl
          have HV := Lib.hid (show (n / 16777216) % 256 = ((byteAt n 3).toNat : Int) from (byteAt_toNat n 3).symm)
          go_wp2_with (at_builtin; refine wpList_append_at _ rfl (.tmp 29) (.tmp 35) 65 rfl w.heap.size 5 i0 (.int .u8 0) 1 1 Tryz.underlying65 hi y0 y1 y2 rfl (by decide) (.slice pa PL pc) PL (bcells P) rfl (HO.out.alloc _) ⟨wr.heap.size, 0, none⟩ 1 1 [.int .u8 ((n / 16777216) % 256)] rfl rfl (fun j u h => by rw [Go.WideShapes.add_plain, Nat.zero_add, ← h]; exact (World.cell?_alloc_new wr _ _ j).trans (by simp)) (by intro u hu; simp at hu; rcases hu with rfl; rfl) (by unfold maxLen; omega) (by omega) (by simp; omega) ?_)
          intro v' w5 hO5 hg5 _
          rw [HV.out] at hO5
          have HB5 := Lib.hid (below_grown (HB.out.alloc hz _) (by rw [World.size_alloc]; omega) hg5 (fun q hq => (HO.out.lt q hq).1))
          have HO5 := Lib.hid (show w5.ownsRow w.heap.size 5 1 v' (P ++ [byteAt n 3]).length (bcells (P ++ [byteAt n 3])) by rw [bcells_append, List.length_append, ← HPL.out]; exact hO5)
          clear hO5 hg5
          go_wp2_with fail
          go_roundg 3
          case measure => have := HG.out; omega
          case rel => exact ⟨3, P ++ [byteAt n 3], by first | rfl | (congr 1; omega) | go_num, by omega, rfl, by rw [List.append_assoc]; exact HP.out, HB5.out, HO5.out⟩
      · obtain rfl : j = 0 := by omega
        have hP4 : P.length ≤ 4 := by rw [← HPL.out]; exact hPl
        have hPe : P = be k n := by have := HP.out; rw [show be 0 n = [] from rfl, List.append_nil] at this; exact this
        have HWR := Lib.hid (HW.out.grow (HB.out.mono (by have := HW.out.lt; omega)))
        have c2 := HWR.out.c2
        have f2 := HWR.out.f2
        have hcv : (convert 65 9 (.slice pa PL pc)).run Tryz.prog wr = .ok (.string ⟨P.toArray⟩) wr := own_text HO.out HPL.out.symm
        have hcw : (convert 65 9 (.slice pa PL pc)).run Tryz.prog wr.drew = .ok (.string ⟨P.toArray⟩) wr.drew := own_text HO.out.drew HPL.out.symm
        have HPP := Lib.hid (HWR.out.put2 (s.B ++ P))
        rw [← cat_two] at HPP
        have HPE := Lib.hid hPe
        clear hPe
        go_upto_region 7 with (fail)
        go_region
        all_goals
          go_end0
          rw [← HPE.out]
          exact ⟨rfl, _, _, HPP.out.grow (Below.refl _ _).drew⟩
  · have HR := Lib.hid (show xNumber n k l m s = { s with bad := true } from if_neg hn)
    rw [HR.out]
    have HP := Lib.hid (HW.out.put3 true)
    clear HR
    by_cases h1 : n < l
    · clear hn
      go_enter Tryz.func80, Tryz.ntmps80
      go_wp2_with fail
      go_end0
      exact ⟨rfl, _, _, HP.out⟩
    · have h2 : m < n := by omega
      clear hn
      go_enter Tryz.func80, Tryz.ntmps80
      go_wp2_with fail
      go_end0
      exact ⟨rfl, _, _, HP.out⟩
end Go.Proofs.YtmofnkinclckoaaGreatDoor

namespace Go.Proofs.YtmofnkinclckoaaGreatDoor
open Go.RowKit Go.Lib Go.WideShapes

theorem count_range {m : Int} (hm : 0 ≤ m) (s : XS) : 0 ≤ (xCount m s).1 ∧ (xCount m s).1 ≤ m := by
  unfold xCount
  split
  · assumption
  · exact ⟨Int.le_refl _, hm⟩
theorem xr_len (s : XS) : s.B.length ≤ xr s := by rw [xr_eq]; omega

set_option maxRecDepth 100000 in
set_option maxHeartbeats 4000000 in
theorem rcount_any (w0 w : World) (s : XS) (m : Int) (h : IsR w0 w s) :
    Calls Tryz.prog 82 #[.pointer (some ⟨w0.heap.size, 0, none⟩), .int .i64 m] w fun e w' => e = .returned (.int .i64 (xCount m s).1) ∧ IsR w0 w' (xCount m s).2 := by
  have HN := Lib.hid (rnum_any w0 w s h)
  unfold xCount
  clear h
  generalize xNum s = p at HN ⊢
  obtain ⟨n, s1⟩ := p
  by_cases hc : 0 ≤ n ∧ n ≤ m
  · have q1 : ¬ n < 0 := by omega
    have q2 : ¬ m < n := by omega
    have q2' : n ≤ m := hc.2
    simp only [if_pos hc]
    clear hc
    go_enter Tryz.func82, Tryz.ntmps82
    go_wp2_with fail
    refine HN.out.mono ?_; rintro e w1 ⟨rfl, hI⟩
    have HI := Lib.hid hI
    clear hI
    go_wp2_with fail
    go_ret
    exact ⟨rfl, HI.out⟩
  · simp only [if_neg hc]
    by_cases h1 : n < 0
    · clear hc
      go_enter Tryz.func82, Tryz.ntmps82
      go_wp2_with fail
      refine HN.out.mono ?_; rintro e w1 ⟨rfl, tv, nv, hW⟩
      have c3 := hW.c3
      have f3 := hW.f3
      have HP := Lib.hid (hW.put3 true)
      clear hW
      go_wp2_with fail
      go_ret
      exact ⟨rfl, _, _, HP.out⟩
    · have h2 : m < n := by omega
      clear hc
      go_enter Tryz.func82, Tryz.ntmps82
      go_wp2_with fail
      refine HN.out.mono ?_; rintro e w1 ⟨rfl, tv, nv, hW⟩
      have c3 := hW.c3
      have f3 := hW.f3
      have HP := Lib.hid (hW.put3 true)
      clear hW
      go_wp2_with fail
      go_ret
      exact ⟨rfl, _, _, HP.out⟩

set_option maxRecDepth 100000 in
set_option maxHeartbeats 4000000 in
theorem rfield_byte (w0 w : World) (s : XS) (hr : xr s ≤ 900000) (h : IsR w0 w s) :
    Calls Tryz.prog 64 #[.pointer (some ⟨w0.heap.size, 0, none⟩), .int .u8 98] w (ROut w0 (xNumF 0 255 1 s)) := by
  have HN := Lib.hid (rnum_any w0 w s h)
  have hx : (xNum s).2.B.length ≤ 1000000 := by
    have : (xNum s).2.B = s.B := by unfold xNum; split <;> rfl
    rw [this]
    have := xr_len s
    omega
  unfold xNumF
  clear h hr
  generalize xNum s = p at HN hx ⊢
  obtain ⟨n, s1⟩ := p
  have HL := Lib.hid hx
  clear hx
  go_enter Tryz.func64, Tryz.ntmps64
  go_wp2_with fail
  refine HN.out.mono ?_; rintro e w1 ⟨rfl, hI⟩
  have HI := Lib.hid hI
  clear hI
  go_wp2_with fail
  refine (rnumber_any w0 w1 s1 n 0 255 1 (by decide) (by decide) (by decide) HL.out HI.out).mono ?_; rintro e w2 ⟨rfl, hI⟩
  have HI2 := Lib.hid hI
  clear hI
  go_wp2_with fail
  go_end0
  exact ⟨rfl, HI2.out⟩

set_option maxRecDepth 100000 in
set_option maxHeartbeats 4000000 in
theorem rfield_short (w0 w : World) (s : XS) (hr : xr s ≤ 900000) (h : IsR w0 w s) :
    Calls Tryz.prog 64 #[.pointer (some ⟨w0.heap.size, 0, none⟩), .int .u8 104] w (ROut w0 (xNumF (-32768) 32767 2 s)) := by
  have HN := Lib.hid (rnum_any w0 w s h)
  have hx : (xNum s).2.B.length ≤ 1000000 := by
    have : (xNum s).2.B = s.B := by unfold xNum; split <;> rfl
    rw [this]
    have := xr_len s
    omega
  unfold xNumF
  clear h hr
  generalize xNum s = p at HN hx ⊢
  obtain ⟨n, s1⟩ := p
  have HL := Lib.hid hx
  clear hx
  go_enter Tryz.func64, Tryz.ntmps64
  go_wp2_with fail
  refine HN.out.mono ?_; rintro e w1 ⟨rfl, hI⟩
  have HI := Lib.hid hI
  clear hI
  go_wp2_with fail
  refine (rnumber_any w0 w1 s1 n (-32768) 32767 2 (by decide) (by decide) (by decide) HL.out HI.out).mono ?_; rintro e w2 ⟨rfl, hI⟩
  have HI2 := Lib.hid hI
  clear hI
  go_wp2_with fail
  go_end0
  exact ⟨rfl, HI2.out⟩

set_option maxRecDepth 100000 in
set_option maxHeartbeats 4000000 in
theorem rfield_long (w0 w : World) (s : XS) (hr : xr s ≤ 900000) (h : IsR w0 w s) :
    Calls Tryz.prog 64 #[.pointer (some ⟨w0.heap.size, 0, none⟩), .int .u8 105] w (ROut w0 (xNumF (-2147483648) 2147483647 4 s)) := by
  have HN := Lib.hid (rnum_any w0 w s h)
  have hx : (xNum s).2.B.length ≤ 1000000 := by
    have : (xNum s).2.B = s.B := by unfold xNum; split <;> rfl
    rw [this]
    have := xr_len s
    omega
  unfold xNumF
  clear h hr
  generalize xNum s = p at HN hx ⊢
  obtain ⟨n, s1⟩ := p
  have HL := Lib.hid hx
  clear hx
  go_enter Tryz.func64, Tryz.ntmps64
  go_wp2_with fail
  refine HN.out.mono ?_; rintro e w1 ⟨rfl, hI⟩
  have HI := Lib.hid hI
  clear hI
  go_wp2_with fail
  refine (rnumber_any w0 w1 s1 n (-2147483648) 2147483647 4 (by decide) (by decide) (by decide) HL.out HI.out).mono ?_; rintro e w2 ⟨rfl, hI⟩
  have HI2 := Lib.hid hI
  clear hI
  go_wp2_with fail
  go_end0
  exact ⟨rfl, HI2.out⟩

theorem xtext_size {s : XS} {R : Nat} (hr : xr s ≤ R) : (xText s).1.length ≤ R ∧ (xText s).2.B.length ≤ R := by
  rcases text_ways s with ⟨_, e⟩ | ⟨t, ts, _, e, h⟩
  · rw [e]
    have := xr_len s
    exact ⟨Nat.zero_le _, by show s.B.length ≤ _; omega⟩
  · rw [e]
    have := xr_len s
    exact ⟨by show t.length ≤ _; omega, by show s.B.length ≤ _; omega⟩

set_option maxRecDepth 100000 in
set_option maxHeartbeats 4000000 in
theorem rfield_text (w0 w : World) (s : XS) (hr : xr s ≤ 900000) (h : IsR w0 w s) :
    Calls Tryz.prog 64 #[.pointer (some ⟨w0.heap.size, 0, none⟩), .int .u8 115] w (ROut w0 (xEndText s)) := by
  have HN := Lib.hid (rtext_any w0 w s h)
  have hx := xtext_size hr
  unfold xEndText
  clear h hr
  generalize xText s = p at HN hx ⊢
  obtain ⟨t, s1⟩ := p
  have hts : (⟨t.toArray⟩ : ByteArray).size ≤ 900000 := by rw [bsize]; exact hx.1
  have HL := Lib.hid hx.2
  have HE := Lib.hid (fun w (h : IsR w0 w s1) => rended_any w0 w s1 ⟨t.toArray⟩ (by omega) (Nat.le_trans hx.2 (by decide)) h)
  have HB := Lib.hid (show bytes (⟨t.toArray⟩ : ByteArray) = t by simp [bytes])
  rw [HB.out] at HE
  clear hx
  go_enter Tryz.func64, Tryz.ntmps64
  go_wp2_with fail
  refine HN.out.mono ?_; rintro e w1 ⟨rfl, hI⟩
  have HI := Lib.hid hI
  clear hI
  go_wp2_with fail
  refine (HE.out w1 HI.out).mono ?_; rintro e w2 ⟨rfl, hI⟩
  have HI2 := Lib.hid hI
  clear hI
  go_wp2_with fail
  go_end0
  exact ⟨rfl, HI2.out⟩
end Go.Proofs.YtmofnkinclckoaaGreatDoor

namespace Go.Proofs.YtmofnkinclckoaaGreatDoor
open Go.RowKit Go.Lib Go.WideShapes

set_option maxRecDepth 100000 in
set_option maxHeartbeats 8000000 in
theorem rrow_99 (w0 w : World) (s : XS) (hr : xr s ≤ 850000) (h : IsR w0 w s) :
    Calls Tryz.prog 83 #[.pointer (some ⟨w0.heap.size, 0, none⟩), .int .u8 99] w (ROut w0 (xRow 99 s)) := by
  have HC := Lib.hid (rcount_any w0 w s 100 h)
  have hcr := count_range (m := 100) (by decide) s
  have hroom := (count_room 100 s).1
  have hF : xOne 99 = xNumF (-32768) 32767 2 := rfl
  unfold xRow
  rw [hF]
  have HST := Lib.hid (hF ▸ step_one 99)
  clear h hF
  generalize xCount 100 s = p at HC hcr hroom ⊢
  obtain ⟨n, s1⟩ := p
  obtain ⟨N, rfl⟩ : ∃ N : Nat, n = N := ⟨n.toNat, by simp only at hcr; omega⟩
  simp only [Int.toNat_natCast] at hcr hroom ⊢
  have hN : N ≤ 100 := by omega
  have hS0 := xr_number (N : Int) 2 0 100 s1
  have HL := Lib.hid (show s1.B.length ≤ 1000000 by have := xr_len s1; omega)
  have HSR := Lib.hid (show xr (xNumber (N : Int) 2 0 100 s1) ≤ 850002 by omega)
  obtain ⟨S, hS⟩ : ∃ S, S = xNumber (N : Int) 2 0 100 s1 := ⟨_, rfl⟩
  rw [← hS] at HSR ⊢
  have HS := Lib.hid hS
  clear hcr hroom hS0 hr hS
  go_enter Tryz.func83, Tryz.ntmps83
  go_wp2_with fail
  refine HC.out.mono ?_; rintro e w1 ⟨rfl, hI⟩
  have HI1 := Lib.hid hI
  clear hI
  go_wp2_with fail
  refine (rnumber_any w0 w1 s1 N 0 100 2 (by decide) (by decide) (by decide) HL.out HI1.out).mono ?_; rintro e w2 ⟨rfl, hI⟩
  rw [← HS.out] at hI
  have HI2 := Lib.hid hI
  clear hI
  go_wp2_with fail
  go_loopw [5, 5] (fun i _ wr => ∃ (j : Nat) (x : XS), j ≤ N ∧ i = .int .i64 j ∧ xRep N (xNumF (-32768) 32767 2) S = xRep (N - j) (xNumF (-32768) 32767 2) x ∧ ((x.bad = false → xr x ≤ 850002) ∧ xr x ≤ 850021) ∧ IsR w0 wr x) (fun i _ _ => N - (RowKit.intOf i).toNat)
  case atStart => exact ⟨0, S, Nat.zero_le _, rfl, rfl, ⟨fun _ => HSR.out, Nat.le_trans HSR.out (by decide)⟩, HI2.out⟩
  case round =>
    obtain ⟨j, x, hj, rfl, hk, hrm, tv, nv, hW⟩ := hrel
    have HK := Lib.hid hk
    have c3 := hW.c3
    have HW := Lib.hid hW
    have HR8 := Lib.hid hrm.2
    have HR9 := Lib.hid (Nat.le_trans hrm.2 (show 850021 ≤ 900000 by decide))
    clear hk hW
    by_cases hlt : j < N
    · have hlt' : (j : Int) < N := by omega
      cases hb : x.bad with
      | true =>
        have HE := Lib.hid (HK.out.trans (rep_bad hb _))
        rw [hb] at c3
        clear hrm hb
        go_wp2_with fail
        go_end0
        exact ⟨rfl, by rw [HE.out]; exact ⟨_, _, HW.out⟩⟩
      | false =>
        have hr0 := hrm.1 hb
        have HNX := Lib.hid (show xRep (N - j) (xNumF (-32768) 32767 2) x = xRep (N - (j + 1)) (xNumF (-32768) 32767 2) (xNumF (-32768) 32767 2 x) from by
          rw [show N - j = (N - (j + 1)) + 1 by omega, xRep, if_neg (by rw [hb]; decide)])
        have HRM := Lib.hid (show ((xNumF (-32768) 32767 2 x).bad = false → xr (xNumF (-32768) 32767 2 x) ≤ 850002) ∧ xr (xNumF (-32768) 32767 2 x) ≤ 850021 from
          ⟨fun h => Nat.le_trans (HST.out.good x h) hr0, Nat.le_trans (HST.out.room x) (by omega)⟩)
        rw [hb] at c3
        clear hrm hb hr0
        go_wp2_with fail
        refine (rfield_short w0 _ x HR9.out ⟨_, _, HW.out⟩).mono ?_; rintro e w3 ⟨rfl, hI⟩
        have HI3 := Lib.hid hI
        clear hI
        go_wp2_with fail
        go_roundw
        case measure => first | omega | (simp [RowKit.intOf]; omega)
        case rel => exact ⟨j + 1, _, by omega, by go_num, (HK.out.trans (HNX.out)), HRM.out, HI3.out⟩
    · obtain rfl : j = N := by omega
      have HE := Lib.hid (show xRep j (xNumF (-32768) 32767 2) S = x from by have := HK.out; rw [Nat.sub_self] at this; exact this)
      clear hrm hlt
      go_wp2_with fail
      go_end0
      exact ⟨rfl, by rw [HE.out]; exact ⟨_, _, HW.out⟩⟩
end Go.Proofs.YtmofnkinclckoaaGreatDoor

namespace Go.Proofs.YtmofnkinclckoaaGreatDoor
open Go.RowKit Go.Lib Go.WideShapes

set_option maxRecDepth 100000 in
set_option maxHeartbeats 8000000 in
theorem rrow_108 (w0 w : World) (s : XS) (hr : xr s ≤ 850000) (h : IsR w0 w s) :
    Calls Tryz.prog 83 #[.pointer (some ⟨w0.heap.size, 0, none⟩), .int .u8 108] w (ROut w0 (xRow 108 s)) := by
  have HC := Lib.hid (rcount_any w0 w s 100 h)
  have hcr := count_range (m := 100) (by decide) s
  have hroom := (count_room 100 s).1
  have hF : xOne 108 = xNumF (-2147483648) 2147483647 4 := rfl
  unfold xRow
  rw [hF]
  have HST := Lib.hid (hF ▸ step_one 108)
  clear h hF
  generalize xCount 100 s = p at HC hcr hroom ⊢
  obtain ⟨n, s1⟩ := p
  obtain ⟨N, rfl⟩ : ∃ N : Nat, n = N := ⟨n.toNat, by simp only at hcr; omega⟩
  simp only [Int.toNat_natCast] at hcr hroom ⊢
  have hN : N ≤ 100 := by omega
  have hS0 := xr_number (N : Int) 2 0 100 s1
  have HL := Lib.hid (show s1.B.length ≤ 1000000 by have := xr_len s1; omega)
  have HSR := Lib.hid (show xr (xNumber (N : Int) 2 0 100 s1) ≤ 850002 by omega)
  obtain ⟨S, hS⟩ : ∃ S, S = xNumber (N : Int) 2 0 100 s1 := ⟨_, rfl⟩
  rw [← hS] at HSR ⊢
  have HS := Lib.hid hS
  clear hcr hroom hS0 hr hS
  go_enter Tryz.func83, Tryz.ntmps83
  go_wp2_with fail
  refine HC.out.mono ?_; rintro e w1 ⟨rfl, hI⟩
  have HI1 := Lib.hid hI
  clear hI
  go_wp2_with fail
  refine (rnumber_any w0 w1 s1 N 0 100 2 (by decide) (by decide) (by decide) HL.out HI1.out).mono ?_; rintro e w2 ⟨rfl, hI⟩
  rw [← HS.out] at hI
  have HI2 := Lib.hid hI
  clear hI
  go_wp2_with fail
  go_loopw [5, 5] (fun i _ wr => ∃ (j : Nat) (x : XS), j ≤ N ∧ i = .int .i64 j ∧ xRep N (xNumF (-2147483648) 2147483647 4) S = xRep (N - j) (xNumF (-2147483648) 2147483647 4) x ∧ ((x.bad = false → xr x ≤ 850002) ∧ xr x ≤ 850021) ∧ IsR w0 wr x) (fun i _ _ => N - (RowKit.intOf i).toNat)
  case atStart => exact ⟨0, S, Nat.zero_le _, rfl, rfl, ⟨fun _ => HSR.out, Nat.le_trans HSR.out (by decide)⟩, HI2.out⟩
  case round =>
    obtain ⟨j, x, hj, rfl, hk, hrm, tv, nv, hW⟩ := hrel
    have HK := Lib.hid hk
    have c3 := hW.c3
    have HW := Lib.hid hW
    have HR8 := Lib.hid hrm.2
    have HR9 := Lib.hid (Nat.le_trans hrm.2 (show 850021 ≤ 900000 by decide))
    clear hk hW
    by_cases hlt : j < N
    · have hlt' : (j : Int) < N := by omega
      cases hb : x.bad with
      | true =>
        have HE := Lib.hid (HK.out.trans (rep_bad hb _))
        rw [hb] at c3
        clear hrm hb
        go_wp2_with fail
        go_end0
        exact ⟨rfl, by rw [HE.out]; exact ⟨_, _, HW.out⟩⟩
      | false =>
        have hr0 := hrm.1 hb
        have HNX := Lib.hid (show xRep (N - j) (xNumF (-2147483648) 2147483647 4) x = xRep (N - (j + 1)) (xNumF (-2147483648) 2147483647 4) (xNumF (-2147483648) 2147483647 4 x) from by
          rw [show N - j = (N - (j + 1)) + 1 by omega, xRep, if_neg (by rw [hb]; decide)])
        have HRM := Lib.hid (show ((xNumF (-2147483648) 2147483647 4 x).bad = false → xr (xNumF (-2147483648) 2147483647 4 x) ≤ 850002) ∧ xr (xNumF (-2147483648) 2147483647 4 x) ≤ 850021 from
          ⟨fun h => Nat.le_trans (HST.out.good x h) hr0, Nat.le_trans (HST.out.room x) (by omega)⟩)
        rw [hb] at c3
        clear hrm hb hr0
        go_wp2_with fail
        refine (rfield_long w0 _ x HR9.out ⟨_, _, HW.out⟩).mono ?_; rintro e w3 ⟨rfl, hI⟩
        have HI3 := Lib.hid hI
        clear hI
        go_wp2_with fail
        go_roundw
        case measure => first | omega | (simp [RowKit.intOf]; omega)
        case rel => exact ⟨j + 1, _, by omega, by go_num, (HK.out.trans (HNX.out)), HRM.out, HI3.out⟩
    · obtain rfl : j = N := by omega
      have HE := Lib.hid (show xRep j (xNumF (-2147483648) 2147483647 4) S = x from by have := HK.out; rw [Nat.sub_self] at this; exact this)
      clear hrm hlt
      go_wp2_with fail
      go_end0
      exact ⟨rfl, by rw [HE.out]; exact ⟨_, _, HW.out⟩⟩
end Go.Proofs.YtmofnkinclckoaaGreatDoor

namespace Go.Proofs.YtmofnkinclckoaaGreatDoor
open Go.RowKit Go.Lib Go.WideShapes

set_option maxRecDepth 100000 in
set_option maxHeartbeats 8000000 in
theorem rrow_109 (w0 w : World) (s : XS) (hr : xr s ≤ 850000) (h : IsR w0 w s) :
    Calls Tryz.prog 83 #[.pointer (some ⟨w0.heap.size, 0, none⟩), .int .u8 109] w (ROut w0 (xRow 109 s)) := by
  have HC := Lib.hid (rcount_any w0 w s 100 h)
  have hcr := count_range (m := 100) (by decide) s
  have hroom := (count_room 100 s).1
  have hF : xOne 109 = xName := rfl
  unfold xRow
  rw [hF]
  have HST := Lib.hid (hF ▸ step_one 109)
  clear h hF
  generalize xCount 100 s = p at HC hcr hroom ⊢
  obtain ⟨n, s1⟩ := p
  obtain ⟨N, rfl⟩ : ∃ N : Nat, n = N := ⟨n.toNat, by simp only at hcr; omega⟩
  simp only [Int.toNat_natCast] at hcr hroom ⊢
  have hN : N ≤ 100 := by omega
  have hS0 := xr_number (N : Int) 2 0 100 s1
  have HL := Lib.hid (show s1.B.length ≤ 1000000 by have := xr_len s1; omega)
  have HSR := Lib.hid (show xr (xNumber (N : Int) 2 0 100 s1) ≤ 850002 by omega)
  obtain ⟨S, hS⟩ : ∃ S, S = xNumber (N : Int) 2 0 100 s1 := ⟨_, rfl⟩
  rw [← hS] at HSR ⊢
  have HS := Lib.hid hS
  clear hcr hroom hS0 hr hS
  go_enter Tryz.func83, Tryz.ntmps83
  go_wp2_with fail
  refine HC.out.mono ?_; rintro e w1 ⟨rfl, hI⟩
  have HI1 := Lib.hid hI
  clear hI
  go_wp2_with fail
  refine (rnumber_any w0 w1 s1 N 0 100 2 (by decide) (by decide) (by decide) HL.out HI1.out).mono ?_; rintro e w2 ⟨rfl, hI⟩
  rw [← HS.out] at hI
  have HI2 := Lib.hid hI
  clear hI
  go_wp2_with fail
  go_loopw [5, 5] (fun i _ wr => ∃ (j : Nat) (x : XS), j ≤ N ∧ i = .int .i64 j ∧ xRep N (xName) S = xRep (N - j) (xName) x ∧ ((x.bad = false → xr x ≤ 850002) ∧ xr x ≤ 850021) ∧ IsR w0 wr x) (fun i _ _ => N - (RowKit.intOf i).toNat)
  case atStart => exact ⟨0, S, Nat.zero_le _, rfl, rfl, ⟨fun _ => HSR.out, Nat.le_trans HSR.out (by decide)⟩, HI2.out⟩
  case round =>
    obtain ⟨j, x, hj, rfl, hk, hrm, tv, nv, hW⟩ := hrel
    have HK := Lib.hid hk
    have c3 := hW.c3
    have HW := Lib.hid hW
    have HR8 := Lib.hid hrm.2
    have HR9 := Lib.hid (Nat.le_trans hrm.2 (show 850021 ≤ 900000 by decide))
    clear hk hW
    by_cases hlt : j < N
    · have hlt' : (j : Int) < N := by omega
      cases hb : x.bad with
      | true =>
        have HE := Lib.hid (HK.out.trans (rep_bad hb _))
        rw [hb] at c3
        clear hrm hb
        go_wp2_with fail
        go_end0
        exact ⟨rfl, by rw [HE.out]; exact ⟨_, _, HW.out⟩⟩
      | false =>
        have hr0 := hrm.1 hb
        have HNX := Lib.hid (show xRep (N - j) (xName) x = xRep (N - (j + 1)) (xName) (xName x) from by
          rw [show N - j = (N - (j + 1)) + 1 by omega, xRep, if_neg (by rw [hb]; decide)])
        have HRM := Lib.hid (show ((xName x).bad = false → xr (xName x) ≤ 850002) ∧ xr (xName x) ≤ 850021 from
          ⟨fun h => Nat.le_trans (HST.out.good x h) hr0, Nat.le_trans (HST.out.room x) (by omega)⟩)
        rw [hb] at c3
        clear hrm hb hr0
        go_wp2_with fail
        have HX := Lib.hid (rtext_any w0 wr x ⟨_, _, HW.out⟩)
        have hx := xtext_size HR9.out
        have HEN := Lib.hid (show xEndText x = xEnded (xText x).1 (xText x).2 from rfl)
        generalize xText x = p at HX hx HEN
        obtain ⟨t, s2⟩ := p
        have hts : (⟨t.toArray⟩ : ByteArray).size ≤ 900000 := by rw [bsize]; exact hx.1
        have HE := Lib.hid (fun w (h : IsR w0 w s2) => rended_any w0 w s2 ⟨t.toArray⟩ (by omega) (Nat.le_trans hx.2 (by decide)) h)
        have HB := Lib.hid (show bytes (⟨t.toArray⟩ : ByteArray) = t by simp [bytes])
        rw [HB.out] at HE
        simp only at HEN
        rw [← HEN.out] at HE
        clear hx
        refine HX.out.mono ?_; rintro e w3 ⟨rfl, hI⟩
        have HI3 := Lib.hid hI
        clear hI
        go_wp2_with fail
        refine (HE.out w3 HI3.out).mono ?_; rintro e w4 ⟨rfl, tv4, nv4, hW4⟩
        have c2 := hW4.c2
        have f2 := hW4.f2
        have hsz4 : (xEndText x).B.length ≤ 950000 := by have := xr_len (xEndText x); have h2 := step_endtext.room x; have h3 := HR9.out; omega
        have HP := Lib.hid (hW4.put2 ((xEndText x).B ++ List.replicate 18 0))
        rw [← cat_two, show (⟨(List.replicate 18 (0 : UInt8)).toArray⟩ : ByteArray) = { data := #[0, 0, 0, 0, 0, 0, 0, 0, 0, 0, 0, 0, 0, 0, 0, 0, 0, 0] } from rfl] at HP
        clear hW4
        go_wp2_with fail
        go_roundw
        case measure => first | omega | (simp [RowKit.intOf]; omega)
        case rel => exact ⟨j + 1, _, by omega, by go_num, (HK.out.trans (HNX.out)), HRM.out, ⟨_, _, HP.out⟩⟩
    · obtain rfl : j = N := by omega
      have HE := Lib.hid (show xRep j (xName) S = x from by have := HK.out; rw [Nat.sub_self] at this; exact this)
      clear hrm hlt
      go_wp2_with fail
      go_end0
      exact ⟨rfl, by rw [HE.out]; exact ⟨_, _, HW.out⟩⟩
end Go.Proofs.YtmofnkinclckoaaGreatDoor
