/- Contracts and mathematics: QE, DL, DT, DTrim. -/
import Derived.Test.YtfdffiphlpeegaaDoorZ9
namespace Go.Proofs.YtfdffiphlpeegaaDoor
open Go.RowKit Go.Lib Go.WideShapes

theorem takeWhile_at : ∀ (l : Bs) (i : Nat), (∀ j, j < i → l[j]? ≠ some 0) → l[i]? = some 0 → l.takeWhile (· != 0) = l.take i
  | [], i, _, h => by cases h
  | a :: r, 0, _, h => by
    obtain rfl := Option.some.inj h
    rfl
  | a :: r, i + 1, h, h0 => by
    have ha : a ≠ 0 := fun e => h 0 (Nat.zero_lt_succ _) (by rw [e]; rfl)
    rw [List.takeWhile_cons, if_pos (by simpa using ha), List.take_succ_cons, takeWhile_at r i (fun j hj => h (j + 1) (Nat.succ_lt_succ hj)) h0]
set_option maxRecDepth 100000 in
set_option maxHeartbeats 4000000 in
theorem qend_any (w0 w : World) (k : Int) (q : QS) (hr : qpot q.s ≤ 1000000) (h : IsQ w0 w k q) :
    Calls Tryd.prog 26 #[.pointer (some ⟨w0.heap.size, 0, none⟩)] w fun e w' => e = .returned (.string ⟨(qEnd q).1.toArray⟩) ∧ IsQ w0 w' k (qEnd q).2 := by
  obtain ⟨tv, nv, hW⟩ := h
  obtain ⟨c0, c1, c2, c3, c4⟩ := hW.cell
  have f0 := hW.frozen 0
  have f4 := hW.frozen 4
  have hl : q.s.S.length ≤ 1000000 := by unfold qpot at hr; omega
  obtain ⟨sb, hsb⟩ : ∃ z : ByteArray, z = ⟨q.s.S.toArray⟩ := ⟨_, rfl⟩
  have hsz : sb.size = q.s.S.length := by rw [hsb, bsize]
  have hbb : bytes sb = q.s.S := by simp [hsb, bytes]
  rw [← hsb] at c0
  have hs1 : sb.size ≤ 1000000 := by omega
  have HW := Lib.hid hW; have HSB := Lib.hid hsb; have HBB := Lib.hid hbb; have HSZ := Lib.hid hsz
  clear hW c1 c2 c3 hr hl hsb hsz hbb
  go_enter Tryd.func26, Tryd.ntmps26
  go_wp2_with fail
  go_loopg [3] sb.size (fun m i wr => ∃ j : Nat, i = .int .i64 j ∧ j ≤ sb.size ∧ m = sb.size - j ∧ wr = w ∧ ∀ j' : Nat, j' < j → q.s.S[j']? ≠ some 0)
  case atStart => exact ⟨0, rfl, Nat.zero_le _, rfl, rfl, fun i h => absurd h (Nat.not_lt_zero _)⟩
  case round =>
    obtain ⟨j, rfl, hj, hm, rfl, ho⟩ := hrel
    have HO := Lib.hid ho; have HGK := Lib.hid hm
    clear ho hm
    by_cases hlt : j < sb.size
    · have hlt' : (j : Int) < sb.size := by omega
      have hgx : q.s.S[j]? = some sb[j] := by
        rw [← HBB.out, List.getElem?_eq_getElem (by rw [blen]; exact hlt)]; rfl
      by_cases hc : sb[j] = 0
      · have hc2 : ((sb[j].toNat : Int) == 0) = true := by rw [hc]; rfl
        have hmem : (0 : UInt8) ∈ q.s.S := by rw [hc] at hgx; exact List.mem_of_getElem? hgx
        have htw := takeWhile_at q.s.S j HO.out (by rw [hgx, hc])
        have HE := Lib.hid (show qEnd q = (q.s.S.take j, ⟨{ q.s with S := q.s.S.drop (j + 1) }, q.bad⟩) from by
          unfold qEnd
          rw [if_pos hmem, htw, List.length_take, Nat.min_eq_left (by have := HSZ.out; omega)])
        have HP := Lib.hid (HW.out.putS (q.s.S.drop (j + 1)))
        rw [← drop_list, ← HSB.out] at HP
        have HT := Lib.hid (take_list q.s.S j)
        rw [← HSB.out] at HT
        have hj1 : (j : Int) + 1 ≤ sb.size := by omega
        clear hc hgx hmem htw
        go_wp2_with fail
        go_ret
        rw [HE.out]
        exact ⟨by rw [← HT.out]; rfl, _, _, HP.out⟩
      · have hc2 : ((sb[j].toNat : Int) == 0) = false := by
          cases hb : ((sb[j].toNat : Int) == 0) with
          | false => rfl
          | true => exact absurd (UInt8.toNat_inj.1 (Int.ofNat.inj (eq_of_beq hb))) hc
        have HN := Lib.hid (show ∀ j' : Nat, j' < j + 1 → q.s.S[j']? ≠ some 0 from fun j' hi => by
          by_cases hik : j' = j
          · subst hik
            rw [hgx]; exact fun e => hc (Option.some.inj e)
          · exact HO.out j' (by omega))
        clear hc hgx
        go_wp2_with fail
        go_roundg (sb.size - (j + 1))
        case measure => have := HGK.out; omega
        case rel => exact ⟨j + 1, by go_num, by omega, rfl, rfl, HN.out⟩
    · have hge : ¬ (j : Int) < sb.size := by omega
      have hno : (0 : UInt8) ∉ q.s.S := fun hm => by
        obtain ⟨m, hm1, hm2⟩ := List.mem_iff_getElem.1 hm
        exact HO.out m (by have := HSZ.out; omega) (by rw [List.getElem?_eq_getElem hm1, hm2])
      have HE := Lib.hid (show qEnd q = ([], ⟨q.s, true⟩) from if_neg hno)
      have HP := Lib.hid HW.out.putBad
      clear hno hlt
      go_wp2_with fail
      go_ret
      rw [HE.out]
      exact ⟨rfl, _, _, HP.out⟩
theorem unsig_two (a b : UInt8) : unsig [a, b] = a.toNat * 256 + b.toNat := by simp [unsig]
theorem unsig_four (a b c d : UInt8) : unsig [a, b, c, d] = a.toNat * 16777216 + b.toNat * 65536 + c.toNat * 256 + d.toNat := by simp [unsig]; omega
/-- The sign of a number is in its first byte. -/
theorem qVal_sign {k : Nat} {b : Bs} {a : UInt8} (hk : k = 2 ∨ k = 4) (hb : b.length = k) (ha : b[0]? = some a) : qVal k b = if 128 ≤ a.toNat then (unsig b : Int) - (256 ^ k : Nat) else (unsig b : Int) := by
  unfold qVal sgn
  rcases hk with rfl | rfl
  · match b, hb, ha with
    | [x, y], _, ha =>
      obtain rfl := Option.some.inj ha
      rw [if_neg (by decide), unsig_two]
      have := UInt8.toNat_lt y
      by_cases h : 128 ≤ x.toNat
      · rw [if_pos h, if_pos (by show (65536 : Int) / 2 ≤ _; omega)]
      · rw [if_neg h, if_neg (by show ¬ (65536 : Int) / 2 ≤ _; omega)]
  · match b, hb, ha with
    | [x, y, z, t], _, ha =>
      obtain rfl := Option.some.inj ha
      rw [if_neg (by decide), unsig_four]
      have := UInt8.toNat_lt y
      have := UInt8.toNat_lt z
      have := UInt8.toNat_lt t
      by_cases h : 128 ≤ x.toNat
      · rw [if_pos h, if_pos (by show (4294967296 : Int) / 2 ≤ _; omega)]
      · rw [if_neg h, if_neg (by show ¬ (4294967296 : Int) / 2 ≤ _; omega)]
set_option maxRecDepth 100000 in
set_option maxHeartbeats 8000000 in
theorem qnum_any (w0 w : World) (k : Int) (q : QS) (n : Nat) (hn : n = 1 ∨ n = 2 ∨ n = 4) (hr : qpot q.s ≤ 1000000) (h : IsQ w0 w k q) :
    Calls Tryd.prog 28 #[.pointer (some ⟨w0.heap.size, 0, none⟩), .int .i64 n] w fun e w' => e = .returned (.int .i64 (qNum n q).1) ∧ IsQ w0 w' k (qNum n q).2 := by
  obtain ⟨tv, nv, hW⟩ := h
  obtain ⟨c0, c1, c2, c3, c4⟩ := hW.cell
  have f0 := hW.frozen 0
  have f4 := hW.frozen 4
  have hl : q.s.S.length ≤ 1000000 := by unfold qpot at hr; omega
  obtain ⟨sb, hsb⟩ : ∃ z : ByteArray, z = ⟨q.s.S.toArray⟩ := ⟨_, rfl⟩
  have hsz : sb.size = q.s.S.length := by rw [hsb, bsize]
  have hbb : bytes sb = q.s.S := by simp [hsb, bytes]
  rw [← hsb] at c0
  have hs1 : sb.size ≤ 1000000 := by omega
  have HW := Lib.hid hW; have HSB := Lib.hid hsb; have HBB := Lib.hid hbb; have HSZ := Lib.hid hsz
  have hn4 : 1 ≤ n ∧ n ≤ 4 := by omega
  clear hW c1 c2 c3 hr hl hsb hsz hbb
  by_cases hsh : sb.size < n
  · have hsh' : (sb.size : Int) < n := by omega
    have HE := Lib.hid (show qNum n q = (0, ⟨q.s, true⟩) from if_pos (by rw [← HSZ.out]; exact hsh))
    have HP := Lib.hid HW.out.putBad
    go_enter Tryd.func28, Tryd.ntmps28
    go_wp2_with fail
    go_ret
    rw [HE.out]
    exact ⟨rfl, _, _, HP.out⟩
  have hsh' : ¬ (sb.size : Int) < n := by omega
  have HE := Lib.hid (show qNum n q = (qVal n (q.s.S.take n), ⟨{ q.s with S := q.s.S.drop n }, q.bad⟩) from if_neg (by rw [← HSZ.out]; exact hsh))
  have HP := Lib.hid (HW.out.putS (q.s.S.drop n))
  rw [← drop_list, ← HSB.out] at HP
  have HLT := Lib.hid (show ∀ j, unsig (q.s.S.take j) < 256 ^ j from fun j => Nat.lt_of_lt_of_le (unsig_lt _) (Nat.pow_le_pow_right (by decide) (List.length_take_le _ _)))
  go_enter Tryd.func28, Tryd.ntmps28
  go_wp2_with fail
  go_loopw [5, 6] (fun nv i wr => ∃ j : Nat, i = .int .i64 j ∧ j ≤ n ∧ nv = .int .i64 (unsig (q.s.S.take j) : Nat) ∧ wr = w) (fun _ i _ => n - (RowKit.intOf i).toNat)
  case atStart => exact ⟨0, rfl, Nat.zero_le _, rfl, rfl⟩
  case round =>
    obtain ⟨j, rfl, hj, rfl, rfl⟩ := hrel
    by_cases hlt : j < n
    · have hlt' : (j : Int) < n := by omega
      have hjs : (j : Int) < sb.size := by omega
      have hgx : q.s.S[j]? = some sb[j] := by
        rw [← HBB.out, List.getElem?_eq_getElem (by rw [blen]; omega)]; rfl
      have hjb : j < q.s.S.length := by have := HSZ.out; omega
      have HN := Lib.hid (show unsig (q.s.S.take (j + 1)) = unsig (q.s.S.take j) * 256 + sb[j].toNat from by
        have h1 : q.s.S.take (j + 1) = q.s.S.take j ++ [sb[j]] := by
          rw [List.take_add_one, hgx]; rfl
        rw [h1, unsig_snoc])
      have hu : unsig (q.s.S.take j) < 16777216 := by
        have h1 := HLT.out j
        have h2 : 256 ^ j ≤ 256 ^ 3 := Nat.pow_le_pow_right (by decide) (by omega)
        exact Nat.lt_of_lt_of_le h1 h2
      have hbt : sb[j].toNat < 256 := UInt8.toNat_lt _
      generalize unsig (q.s.S.take j) = u at hu HN ⊢
      have hu' : (u : Int) ≤ 16777216 := by omega
      clear hgx hjb
      go_wp2_with fail
      go_roundw
      case measure => first | omega | (simp [RowKit.intOf]; done) | (simp [RowKit.intOf]; omega)
      case rel => exact ⟨j + 1, by go_num, by omega, by rw [HN.out]; exact congrArg (Value.int .i64) (by omega), by first | rfl | trivial⟩
    · have hjn : j = n := by omega
      subst hjn
      have hge : ¬ (j : Int) < j := by omega
      clear hlt
      rcases hn with rfl | rfl | rfl
      · have HQ2 := Lib.hid (show qVal 1 (q.s.S.take 1) = (unsig (q.s.S.take 1) : Int) from if_pos rfl)
        have hnz : (1 : Int) ≤ sb.size := by omega
        generalize unsig (q.s.S.take 1) = u at HQ2 ⊢
        go_wp2_with fail
        go_ret
        rw [HE.out]
        exact ⟨by rw [HQ2.out]; rfl, _, _, HP.out⟩
      · have hgx : q.s.S[0]? = some (sb[0]'(by omega)) := by
          rw [← HBB.out, List.getElem?_eq_getElem (by rw [blen]; omega)]; rfl
        have h0s : (0 : Int) < sb.size := by omega
        have h0n : 0 < sb.size := by omega
        have hnz : (2 : Int) ≤ sb.size := by omega
        have hqs := qVal_sign (k := 2) (b := q.s.S.take 2) (a := sb[0]'(by omega)) (by decide) (by rw [List.length_take, Nat.min_eq_left (by have := HSZ.out; omega)]) (by rw [List.getElem?_take_of_lt (by decide)]; exact hgx)
        have hu : unsig (q.s.S.take 2) < 65536 := HLT.out 2
        have HQ := Lib.hid hqs
        generalize unsig (q.s.S.take 2) = u at hu HQ ⊢
        have hu' : (u : Int) < 65536 := by omega
        have hw : IntKind.i64.wrap 16 = 16 := rfl
        have hw2 : IntKind.i64.wrap 65536 = 65536 := rfl
        clear hgx hqs
        by_cases h128 : 128 ≤ (sb[0]'(by omega)).toNat
        · have h1 : decide ((128 : Int) ≤ ((sb[0]'(by omega)).toNat : Nat)) = true := decide_eq_true (by omega)
          have HQ2 := Lib.hid (show qVal 2 (q.s.S.take 2) = (u : Int) - 65536 from by rw [HQ.out, if_pos h128]; rfl)
          clear h128
          go_wp2_with fail
          go_ret
          rw [HE.out]
          exact ⟨by rw [HQ2.out]; rfl, _, _, HP.out⟩
        · have h1 : decide ((128 : Int) ≤ ((sb[0]'(by omega)).toNat : Nat)) = false := decide_eq_false (by omega)
          have HQ2 := Lib.hid (show qVal 2 (q.s.S.take 2) = (u : Int) from by rw [HQ.out, if_neg h128])
          clear h128
          go_wp2_with fail
          go_ret
          rw [HE.out]
          exact ⟨by rw [HQ2.out]; rfl, _, _, HP.out⟩
      · have hgx : q.s.S[0]? = some (sb[0]'(by omega)) := by
          rw [← HBB.out, List.getElem?_eq_getElem (by rw [blen]; omega)]; rfl
        have h0s : (0 : Int) < sb.size := by omega
        have h0n : 0 < sb.size := by omega
        have hnz : (4 : Int) ≤ sb.size := by omega
        have hqs := qVal_sign (k := 4) (b := q.s.S.take 4) (a := sb[0]'(by omega)) (by decide) (by rw [List.length_take, Nat.min_eq_left (by have := HSZ.out; omega)]) (by rw [List.getElem?_take_of_lt (by decide)]; exact hgx)
        have hu : unsig (q.s.S.take 4) < 4294967296 := HLT.out 4
        have HQ := Lib.hid hqs
        generalize unsig (q.s.S.take 4) = u at hu HQ ⊢
        have hu' : (u : Int) < 4294967296 := by omega
        have hw : IntKind.i64.wrap 32 = 32 := rfl
        have hw2 : IntKind.i64.wrap 4294967296 = 4294967296 := rfl
        clear hgx hqs
        by_cases h128 : 128 ≤ (sb[0]'(by omega)).toNat
        · have h1 : decide ((128 : Int) ≤ ((sb[0]'(by omega)).toNat : Nat)) = true := decide_eq_true (by omega)
          have HQ2 := Lib.hid (show qVal 4 (q.s.S.take 4) = (u : Int) - 4294967296 from by rw [HQ.out, if_pos h128]; rfl)
          clear h128
          go_wp2_with fail
          go_ret
          rw [HE.out]
          exact ⟨by rw [HQ2.out]; rfl, _, _, HP.out⟩
        · have h1 : decide ((128 : Int) ≤ ((sb[0]'(by omega)).toNat : Nat)) = false := decide_eq_false (by omega)
          have HQ2 := Lib.hid (show qVal 4 (q.s.S.take 4) = (u : Int) from by rw [HQ.out, if_neg h128])
          clear h128
          go_wp2_with fail
          go_ret
          rw [HE.out]
          exact ⟨by rw [HQ2.out]; rfl, _, _, HP.out⟩
end Go.Proofs.YtfdffiphlpeegaaDoor

namespace Go.Proofs.YtfdffiphlpeegaaDoor
open Go.RowKit Go.Lib Go.WideShapes

theorem signed_N {k : Nat} {n : Int} {s s' : RS} (h : rSigned k s = some (n, s')) : s'.N = s.N := by
  obtain ⟨_, _, _, _, _, _, e⟩ := signed_out h
  exact e
set_option maxRecDepth 100000 in
set_option maxHeartbeats 4000000 in
theorem short_r (w0 w : World) (s : RS) (hl : droom s ≤ 900000) (h : IsD w0 w s) :
    Calls Tryd.prog 44 #[.pointer (some ⟨w0.heap.size, 0, none⟩)] w (DOut w0 (rShort s)) := by
  have HS := Lib.hid (signed_two w0 w s (by unfold droom at hl; omega) h)
  unfold rShort
  have HO := Lib.hid (fun n s' => signed_N (k := 2) (s := s) (n := n) (s' := s'))
  have hN : s.N.length ≤ 1000000 := by unfold droom at hl; omega
  clear h hl
  generalize rSigned 2 s = R at HS HO ⊢
  go_enter Tryd.func44, Tryd.ntmps44
  go_wp2_with fail
  refine HS.out.mono ?_; rintro e w1 (⟨n, s1, rfl, rfl, hI⟩ | ⟨rfl, rfl, hB⟩)
  · have HI := Lib.hid hI
    have hNN : s1.N.length ≤ 1000000 := by rw [HO.out n s1 rfl]; exact hN
    clear hI
    go_wp2_with fail
    refine (keep_any w0 w1 s1 n hNN HI.out).mono ?_; rintro e w2 (⟨s2, h2, rfl, hI⟩ | ⟨h2, _, _⟩)
    · have HI2 := Lib.hid hI
      obtain rfl := Option.some.inj h2
      clear hI h2
      go_wp2_with fail
      go_end0
      exact .inl ⟨_, rfl, rfl, HI2.out⟩
    · cases h2
  · go_wp2_with fail
    exact ⟨rfl, .inr ⟨rfl, rfl, hB⟩⟩

set_option maxRecDepth 100000 in
set_option maxHeartbeats 4000000 in
theorem long_r (w0 w : World) (s : RS) (hl : droom s ≤ 900000) (h : IsD w0 w s) :
    Calls Tryd.prog 40 #[.pointer (some ⟨w0.heap.size, 0, none⟩)] w (DOut w0 (rLong s)) := by
  have HS := Lib.hid (signed_four w0 w s (by unfold droom at hl; omega) h)
  unfold rLong
  have HO := Lib.hid (fun n s' => signed_N (k := 4) (s := s) (n := n) (s' := s'))
  have hN : s.N.length ≤ 1000000 := by unfold droom at hl; omega
  clear h hl
  generalize rSigned 4 s = R at HS HO ⊢
  go_enter Tryd.func40, Tryd.ntmps40
  go_wp2_with fail
  refine HS.out.mono ?_; rintro e w1 (⟨n, s1, rfl, rfl, hI⟩ | ⟨rfl, rfl, hB⟩)
  · have HI := Lib.hid hI
    have hNN : s1.N.length ≤ 1000000 := by rw [HO.out n s1 rfl]; exact hN
    clear hI
    go_wp2_with fail
    refine (keep_any w0 w1 s1 n hNN HI.out).mono ?_; rintro e w2 (⟨s2, h2, rfl, hI⟩ | ⟨h2, _, _⟩)
    · have HI2 := Lib.hid hI
      obtain rfl := Option.some.inj h2
      clear hI h2
      go_wp2_with fail
      go_end0
      exact .inl ⟨_, rfl, rfl, HI2.out⟩
    · cases h2
  · go_wp2_with fail
    exact ⟨rfl, .inr ⟨rfl, rfl, hB⟩⟩
end Go.Proofs.YtfdffiphlpeegaaDoor

namespace Go.Proofs.YtfdffiphlpeegaaDoor
open Go.RowKit Go.Lib Go.WideShapes

theorem index_while : ∀ l : Bs, (0 : UInt8) ∈ l → Lib.indexByte l 0 = ((l.takeWhile (· != 0)).length : Nat) := by
  intro l
  induction l with
  | nil => intro h; cases h
  | cons b l ih =>
    intro h
    have e : Lib.indexByte (b :: l) 0 = if b == 0 then 0 else if Lib.indexByte l 0 == -1 then -1 else Lib.indexByte l 0 + 1 := rfl
    rw [e]
    by_cases hb : b = 0
    · subst hb; rfl
    · have hb' : (b == 0) = false := by simpa using hb
      have hb2 : (b != 0) = true := bne_iff_ne.2 hb
      have hm : (0 : UInt8) ∈ l := (List.mem_cons.1 h).resolve_left fun e => hb e.symm
      rw [hb', if_neg (by simp), ih hm, List.takeWhile_cons, hb2]
      have hne : (((l.takeWhile (· != 0)).length : Int) == -1) = false := by rw [beq_eq_false_iff_ne]; omega
      rw [hne, if_neg (by simp)]
      show _ = (((b :: l.takeWhile (· != 0)).length : Nat) : Int)
      rw [List.length_cons]; omega
theorem info_str : (Tryd.prog.info? 9).map (fun i => (i.zero, i.size, i.bytes)) = some (some (.string { data := #[] }), 1, 16) := by kernel_rfl
theorem while_len (l : Bs) : (l.takeWhile (· != 0)).length ≤ l.length := by
  induction l with
  | nil => exact Nat.le_refl _
  | cons b l ih => rw [List.takeWhile_cons]; split <;> simp <;> omega

/-- A text found: what the two takes leave. -/
theorem text_parts {s : RS} (h : (0 : UInt8) ∈ s.S) : rTake (s.S.takeWhile (· != 0)).length s = some (s.S.takeWhile (· != 0), { s with S := 0 :: s.S.drop ((s.S.takeWhile (· != 0)).length + 1) }) := by
  obtain ⟨e1, _⟩ := while_out h
  have := take_pre (s.S.takeWhile (· != 0)) (0 :: s.S.drop ((s.S.takeWhile (· != 0)).length + 1)) s.T s.N
  rw [← e1] at this
  exact this

/-- What a take that goes well leaves. -/
def TakeIs (w0 : World) (tv nv : Value) (b : Bs) (s : RS) (e : Ending) (w' : World) : Prop := e = .returned (.string ⟨b.toArray⟩) ∧ DAt w0 w' s tv nv
theorem take_is {w0 w : World} {s s1 : RS} {tv nv : Value} {n : Nat} {b : Bs} (hr : rTake n s = some (b, s1)) (hl : s.S.length ≤ 1000000) (hW : DAt w0 w s tv nv) :
    Calls Tryd.prog 63 #[.pointer (some ⟨w0.heap.size, 0, none⟩), .int .i64 n] w (TakeIs w0 tv nv b s1) := by
  refine (take_at w0 w s tv nv n hl hW).mono ?_
  rintro e w' (⟨b', s', h1, h2, h3⟩ | ⟨h1, _⟩)
  · rw [hr] at h1
    obtain ⟨rfl, rfl⟩ := Prod.mk.inj (Option.some.inj h1)
    exact ⟨h2, h3⟩
  · rw [hr] at h1; cases h1

set_option maxRecDepth 100000 in
set_option maxHeartbeats 8000000 in
theorem text_r (w0 w : World) (s : RS) (hl : droom s ≤ 900000) (h : IsD w0 w s) :
    Calls Tryd.prog 37 #[.pointer (some ⟨w0.heap.size, 0, none⟩)] w (DOut w0 (rText s)) := by
  obtain ⟨i0, hi, y0, y1, y2⟩ := info_parts info_str
  obtain ⟨tv, nv, hW⟩ := h
  have c0 := hW.c0
  have HW := Lib.hid hW
  have hSl : s.S.length ≤ 1000000 := by unfold droom at hl; omega
  have hTl : s.T.length ≤ 1000000 := by unfold droom at hl; omega
  clear hW hl
  have HIX := Lib.hid (Tryd.strings_IndexByte ⟨s.S.toArray⟩ 0 w)
  by_cases h0 : (0 : UInt8) ∈ s.S
  · have HR := Lib.hid (show rText s = some { s with S := s.S.drop ((s.S.takeWhile (· != 0)).length + 1), T := s.T ++ [s.S.takeWhile (· != 0)] } from if_pos h0)
    have hix := index_while s.S h0
    rw [show Lib.indexByte (⟨s.S.toArray⟩ : ByteArray).data.toList (0 : Int).toNat.toUInt8 = Lib.indexByte s.S 0 from rfl, hix] at HIX
    have HTK := Lib.hid (fun W (hD : DAt w0 W s tv nv) => take_is (text_parts h0) hSl hD)
    have hwl := while_len s.S
    rw [HR.out]
    obtain ⟨t, ht⟩ : ∃ t, t = s.S.takeWhile (· != 0) := ⟨_, rfl⟩
    rw [← ht] at HTK HIX hwl ⊢
    obtain ⟨S1, hS1⟩ : ∃ S1, S1 = s.S.drop (t.length + 1) := ⟨_, rfl⟩
    have hS1l : S1.length + 1 ≤ 1000000 := by rw [hS1, List.length_drop]; have := List.length_pos_of_mem h0; omega
    rw [← hS1] at HTK ⊢
    obtain ⟨a, c, rfl⟩ := ownsRow_form HW.out.texts
    have htl : (t.length : Int) ≤ 1000000 := by omega
    clear ht hS1 HR hix h0 hwl
    go_enter Tryd.func37, Tryd.ntmps37
    go_wp2_with fail
    refine HIX.out.mono ?_; rintro e w1 ⟨rfl, rfl⟩
    go_wp2_with fail
    refine (demand_ok _).mono ?_; rintro e w2 ⟨rfl, rfl⟩
    go_upto_region 2 with (fail)
    have c1 := HW.out.c1
    obtain ⟨TL, hTL⟩ : ∃ TL : Nat, TL = s.T.length := ⟨_, rfl⟩
    have HTL := Lib.hid hTL
    rw [← hTL] at HTK HW c1 hTl
    clear hTL
    go_region_law (first | (go_simp; go_at_call 63; refine (HTK.out _ HW.out.drew).mono ?_; rintro e w5 ⟨rfl, hW5⟩; have HW5 := Lib.hid hW5; have d1 := hW5.c1; have g1 := hW5.f1; have z5 := hW5.lt; clear hW5) | (refine step_append_own rfl (.tmp 15) (.tmp 19) 25 rfl (w0.heap.size + 1) 9 i0 (.string { data := #[] }) 1 16 Tryd.underlying25 hi y0 y1 y2 rfl (by decide) (.slice a TL c) TL (tcells s.T) (by simp [Act.eval]) (by have := HW5.out.texts.alloc (.cells #[.string ⟨t.toArray⟩] 9); rw [show ({ S := 0 :: S1, T := s.T, N := s.N } : RS).T.length = TL from HTL.out.symm] at this; exact this) ⟨w5.heap.size, 0, none⟩ 1 1 [.string ⟨t.toArray⟩] (by simp [Act.eval]) rfl ?c1 ?c2 ?c3 ?c4 ?c5 ?_; (case c1 => (intro j u h; rw [Go.WideShapes.add_plain, Nat.zero_add, ← h]; exact (World.cell?_alloc_new w5 _ _ j).trans (by simp))); (case c2 => (intro u hu; simp at hu; rcases hu with rfl; rfl)); (case c3 => (unfold maxLen; omega)); (case c4 => omega); (case c5 => (first | omega | (simp; omega))); intro v' w6 hO6 hg6; obtain ⟨a', c', rfl⟩ := ownsRow_form hO6; have HB6 := Lib.hid (HW5.out.grewT hg6); obtain ⟨_, ⟨e2, g2⟩, hz6⟩ := HW5.out.afterN HB6.out; have HP6 := Lib.hid (HW5.out.put1 (T := s.T ++ [t]) HB6.out (by rw [tcells_append, List.length_append, ← HTL.out]; exact hO6) (HW5.out.rowN hg6)); clear hO6 hg6))
    all_goals
      go_wp2_with fail
      refine (take_is (n := 1) (b := [0]) (s1 := { S := S1, T := s.T ++ [t], N := s.N }) (by unfold rTake; rw [if_pos (by show 1 ≤ (0 :: S1).length; simp)]; rfl) (by show (0 :: S1).length ≤ _; rw [List.length_cons]; omega) HP6.out).mono ?_; rintro e w7 ⟨rfl, hW7⟩
      have HW7 := Lib.hid hW7
      clear hW7
      go_wp2_with fail
      go_end0
      exact .inl ⟨_, rfl, rfl, _, _, HW7.out⟩
  · have HR := Lib.hid (show rText s = none from if_neg h0)
    rw [show Lib.indexByte (⟨s.S.toArray⟩ : ByteArray).data.toList (0 : Int).toNat.toUInt8 = Lib.indexByte s.S 0 from rfl, (ib_in s.S).2 h0] at HIX
    rw [HR.out]
    clear h0 HR
    go_enter Tryd.func37, Tryd.ntmps37
    go_wp2_with fail
    refine HIX.out.mono ?_; rintro e w1 ⟨rfl, rfl⟩
    go_wp2_with fail
    refine (demand_no _).mono ?_; rintro e w2 ⟨rfl, rfl⟩
    go_wp2_with fail
    exact ⟨rfl, .inr ⟨rfl, rfl, HW.out.below⟩⟩
end Go.Proofs.YtfdffiphlpeegaaDoor

namespace Go.Proofs.YtfdffiphlpeegaaDoor
open Go.RowKit Go.Lib Go.WideShapes

/-- What a trimming of bytes 0 leaves of l. -/
def TrimOut (l : Bs) (w : World) (e : Ending) (w' : World) : Prop := ∃ r : ByteArray, e = .returned (.string r) ∧ w' = w ∧ r.size ≤ l.length ∧ ((r.size = 0 ∧ ∀ b ∈ l, b = 0) ∨ ((∃ b ∈ bytes r, b ≠ 0) ∧ ∃ b ∈ l, b ≠ 0))
def strLen : Value → Nat
  | .string s => s.size
  | _ => 0
theorem bytes_cut (X : ByteArray) (h : 0 < X.size) : bytes X = bytes (X.extract 0 (X.size - 1)) ++ [X[X.size - 1]'(by omega)] := by
  have hl : (bytes X).length = X.size := blen X
  have e1 : bytes (X.extract 0 (X.size - 1)) = (bytes X).take (X.size - 1) := by
    have hx : X.data.toList.length = X.size := hl
    simp only [bytes, ByteArray.data_extract, Array.toList_extract, List.extract_eq_take_drop, List.drop_zero, Nat.sub_zero]
  rw [e1]
  have h2 : X.size - 1 < (bytes X).length := by omega
  have e2 := List.take_succ_eq_append_getElem h2
  rw [show X.size - 1 + 1 = (bytes X).length by omega, List.take_length] at e2
  exact e2
theorem bytes_behead (X : ByteArray) (h : 0 < X.size) : bytes X = X[0] :: bytes (X.extract 1 X.size) := by
  have hl : (bytes X).length = X.size := blen X
  have e1 : bytes (X.extract 1 X.size) = (bytes X).drop 1 := by
    simp [bytes, ByteArray.data_extract, List.take_of_length_le]
  rw [e1]
  have h2 : 0 < (bytes X).length := by omega
  have e2 := List.drop_eq_getElem_cons h2
  rw [List.drop_zero] at e2
  exact e2
theorem size_cut1 (X : ByteArray) (h : 0 < X.size) : (X.extract 0 (X.size - 1)).size = X.size - 1 := by
  have := congrArg List.length (bytes_cut X h)
  rw [List.length_append, blen, blen, List.length_singleton] at this
  omega
theorem size_behead (X : ByteArray) (h : 0 < X.size) : (X.extract 1 X.size).size = X.size - 1 := by
  have := congrArg List.length (bytes_behead X h)
  rw [List.length_cons, blen, blen] at this
  omega

set_option maxRecDepth 100000 in
set_option maxHeartbeats 8000000 in
theorem trimR_any (s : ByteArray) (w : World) (hs : s.size ≤ 1000000) :
    Calls Tryd.prog 72 #[.string s, .int .u8 0] w (TrimOut (bytes s) w) := by
  go_enter Tryd.func72, Tryd.ntmps72
  go_wp2_with fail
  go_loopw [0, 0] (fun v _ wx => ∃ X : ByteArray, v = .string X ∧ X.size ≤ s.size ∧ (∃ Z : Bs, bytes s = bytes X ++ Z ∧ ∀ b ∈ Z, b = 0) ∧ wx = w) (fun v _ _ => strLen v)
  case atStart => exact ⟨s, rfl, Nat.le_refl _, ⟨[], by simp, by simp⟩, rfl⟩
  case round =>
    obtain ⟨X, rfl, hX, hZ, hwr⟩ := hrel
    subst hwr
    have HZ := Lib.hid hZ
    clear hZ
    by_cases h0 : 0 < X.size
    · have h0' : (0 : Int) < X.size := by omega
      have h1' : (0 : Int) ≤ (X.size : Int) - 1 := by omega
      have hk : ((X.size : Int) - 1).toNat = X.size - 1 := by omega
      have HC := Lib.hid (bytes_cut X h0)
      have HSZ := Lib.hid (size_cut1 X h0)
      have hlt : X.size - 1 < X.size := by omega
      by_cases hb : X[X.size - 1] = 0
      · have hb0 : ((X[X.size - 1].toNat : Int) == 0) = true := by rw [hb]; rfl
        go_wp2_with fail
        go_roundw
        case measure => show (X.extract 0 (X.size - 1)).size < X.size; rw [HSZ.out]; omega
        case rel =>
          obtain ⟨Z, hz1, hz2⟩ := HZ.out
          refine ⟨_, rfl, by rw [HSZ.out]; omega, ⟨[0] ++ Z, ?_, ?_⟩, by trivial⟩
          · rw [hz1, HC.out, hb, List.append_assoc]
          · intro b hbm
            rcases List.mem_append.1 hbm with h | h
            · exact List.mem_singleton.1 h
            · exact hz2 b h
      · have hb0 : ((X[X.size - 1].toNat : Int) == 0) = false := by
          rw [beq_eq_false_iff_ne]; intro e
          exact hb (UInt8.toNat_inj.mp (by have : X[X.size - 1].toNat = 0 := by omega
                                           exact this))
        have HB := Lib.hid hb
        clear hb
        go_wp2_with fail
        go_ret
        obtain ⟨Z, hz1, _⟩ := HZ.out
        have hm : X[X.size - 1] ∈ bytes X := by rw [HC.out]; simp
        exact ⟨X, rfl, rfl, by rw [blen]; exact hX, .inr ⟨⟨_, hm, HB.out⟩, ⟨_, by rw [hz1]; exact List.mem_append_left _ hm, HB.out⟩⟩⟩
    · have hz : X.size = 0 := by omega
      have HZ0 := Lib.hid hz
      have h0' : ¬ (0 : Int) < X.size := by omega
      clear hz
      go_wp2_with fail
      go_ret
      obtain ⟨Z, hz1, hz2⟩ := HZ.out
      have he : bytes X = [] := List.length_eq_zero_iff.1 (by rw [blen]; exact HZ0.out)
      rw [he, List.nil_append] at hz1
      exact ⟨X, rfl, rfl, by rw [blen]; exact hX, .inl ⟨HZ0.out, by rw [hz1]; exact hz2⟩⟩

set_option maxRecDepth 100000 in
set_option maxHeartbeats 8000000 in
theorem trimL_any (s : ByteArray) (w : World) :
    Calls Tryd.prog 71 #[.string s, .int .u8 0] w (TrimOut (bytes s) w) := by
  go_enter Tryd.func71, Tryd.ntmps71
  go_wp2_with fail
  go_loopw [0, 0] (fun v _ wx => ∃ X : ByteArray, v = .string X ∧ X.size ≤ s.size ∧ (∃ Z : Bs, bytes s = Z ++ bytes X ∧ ∀ b ∈ Z, b = 0) ∧ wx = w) (fun v _ _ => strLen v)
  case atStart => exact ⟨s, rfl, Nat.le_refl _, ⟨[], by simp, by simp⟩, rfl⟩
  case round =>
    obtain ⟨X, rfl, hX, hZ, hwr⟩ := hrel
    subst hwr
    have HZ := Lib.hid hZ
    clear hZ
    by_cases h0 : 0 < X.size
    · have h0' : (0 : Int) < X.size := by omega
      have h1 : (1 : Int) ≤ X.size := by omega
      have HC := Lib.hid (bytes_behead X h0)
      have HSZ := Lib.hid (size_behead X h0)
      by_cases hb : X[0] = 0
      · have hb0 : ((X[0].toNat : Int) == 0) = true := by rw [hb]; rfl
        go_wp2_with fail
        go_roundw
        case measure => show (X.extract 1 X.size).size < X.size; rw [HSZ.out]; omega
        case rel =>
          obtain ⟨Z, hz1, hz2⟩ := HZ.out
          refine ⟨_, rfl, by rw [HSZ.out]; omega, ⟨Z ++ [0], ?_, ?_⟩, by trivial⟩
          · rw [hz1, HC.out, hb, List.append_assoc]; rfl
          · intro b hbm
            rcases List.mem_append.1 hbm with h | h
            · exact hz2 b h
            · exact List.mem_singleton.1 h
      · have hb0 : ((X[0].toNat : Int) == 0) = false := by
          rw [beq_eq_false_iff_ne]; intro e
          exact hb (UInt8.toNat_inj.mp (by have : X[0].toNat = 0 := by omega
                                           exact this))
        have HB := Lib.hid hb
        clear hb
        go_wp2_with fail
        go_ret
        obtain ⟨Z, hz1, _⟩ := HZ.out
        have hm : X[0] ∈ bytes X := by rw [HC.out]; exact List.mem_cons_self ..
        exact ⟨X, rfl, rfl, by rw [blen]; exact hX, .inr ⟨⟨_, hm, HB.out⟩, ⟨_, by rw [hz1]; exact List.mem_append_right _ hm, HB.out⟩⟩⟩
    · have hz : X.size = 0 := by omega
      have HZ0 := Lib.hid hz
      have h0' : ¬ (0 : Int) < X.size := by omega
      clear hz
      go_wp2_with fail
      go_ret
      obtain ⟨Z, hz1, hz2⟩ := HZ.out
      have he : bytes X = [] := List.length_eq_zero_iff.1 (by rw [blen]; exact HZ0.out)
      rw [he, List.append_nil] at hz1
      exact ⟨X, rfl, rfl, by rw [blen]; exact hX, .inl ⟨HZ0.out, by rw [hz1]; exact hz2⟩⟩

/-- What Trim leaves of l. -/
def TrimAll (l : Bs) (w : World) (e : Ending) (w' : World) : Prop := ∃ r : ByteArray, e = .returned (.string r) ∧ (r.size = 0 ↔ ∀ b ∈ l, b = 0) ∧ Below w.heap.size w w'
set_option maxRecDepth 100000 in
set_option maxHeartbeats 8000000 in
theorem trim_any (s : ByteArray) (w : World) (h0 : 0 < s.size) (hs : s.size ≤ 1000000) :
    Calls Tryd.prog 65 #[.string s, .string { data := #[0] }] w (TrimAll (bytes s) w) := by
  have hne : (s.toList == ([] : List UInt8)) = false := by
    rw [toList_eq, beq_eq_false_iff_ne]; intro e
    have h1 : (bytes s).length = s.size := blen s
    rw [show bytes s = [] from e] at h1
    have h2 : ([] : Bs).length = 0 := rfl
    omega
  go_enter Tryd.func65, Tryd.ntmps65
  go_upto_region 4 with (fail)
  go_region_with (first | (go_at_call 72; refine (trimR_any s _ hs).mono ?_; rintro e w5 ⟨r, rfl, rfl, hrl, hr⟩; have HRL := Lib.hid hrl; have HR := Lib.hid hr; clear hrl hr) | (go_at_call 71; refine (trimL_any r _).mono ?_; rintro e w6 ⟨q, rfl, rfl, hql, hq⟩; have HQL := Lib.hid hql; have HQ := Lib.hid hq; clear hql hq))
  all_goals
    go_wp2_with fail
    go_ret
    refine ⟨q, rfl, ?_, (Below.refl _ _).drew⟩
    rcases HR.out with ⟨e1, e2⟩ | ⟨⟨b, e1, e1'⟩, c, e2, e2'⟩
    · have hq0 : q.size = 0 := by have := HQL.out; rw [blen] at this; omega
      exact ⟨fun _ => e2, fun _ => hq0⟩
    · rcases HQ.out with ⟨g1, g2⟩ | ⟨⟨d, g1, g1'⟩, _⟩
      · exact absurd (g2 b e1) e1'
      · constructor
        · intro h
          have : bytes q = [] := List.length_eq_zero_iff.1 (by rw [blen]; exact h)
          rw [this] at g1; cases g1
        · intro h; exact absurd (h c e2) e2'
end Go.Proofs.YtfdffiphlpeegaaDoor
