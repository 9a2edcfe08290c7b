/- Contracts and mathematics: QR, QE. -/
import Derived.Test.YtmofnkinclckoaaGreatDoorZ24
namespace Go.Proofs.YtmofnkinclckoaaGreatDoor
open Go.RowKit Go.Lib Go.WideShapes

theorem rText_nums {s s1 : RS} (N : List Int) (h : rText s = some s1) : rText { s with N := N } = some { s1 with N := N } ∧ s1.N = s.N := by
  unfold rText at h ⊢
  by_cases h0 : (0 : UInt8) ∈ s.S
  · rw [if_pos h0] at h ⊢
    cases h
    exact ⟨rfl, rfl⟩
  · rw [if_neg h0] at h; cases h
theorem rRow_nums : ∀ (k : Nat) (s : RS) (N : List Int) (p : Nat × RS), rRow rText k s = some p → rRow rText k { s with N := N } = some (p.1, { p.2 with N := N }) ∧ p.2.N = s.N
  | 0, s, N, p, h => by cases h
  | k + 1, s, N, p, h => by
    obtain ⟨S, T, M⟩ := s
    cases S with
    | nil => cases h
    | cons b r =>
      have h1 : (if b = 0 then some (0, (⟨r, T, M⟩ : RS)) else (rText ⟨b :: r, T, M⟩).bind fun s1 => (rRow rText k s1).map fun p => (p.1 + 1, p.2)) = some p := h
      show (if b = 0 then some (0, (⟨r, T, N⟩ : RS)) else (rText ⟨b :: r, T, N⟩).bind fun s1 => (rRow rText k s1).map fun p => (p.1 + 1, p.2)) = _ ∧ _
      by_cases hb : b = 0
      · rw [if_pos hb] at h1 ⊢
        cases h1; exact ⟨rfl, rfl⟩
      · rw [if_neg hb] at h1 ⊢
        cases ht : rText ⟨b :: r, T, M⟩ with
        | none => rw [ht] at h1; cases h1
        | some s1 =>
          rw [ht] at h1
          have h2 : (rRow rText k s1).map (fun p => (p.1 + 1, p.2)) = some p := h1
          obtain ⟨e1, e2⟩ := rText_nums N ht
          have e1' : rText ⟨b :: r, T, N⟩ = some { s1 with N := N } := e1
          rw [e1']
          cases hr : rRow rText k s1 with
          | none => rw [hr] at h2; cases h2
          | some p1 =>
            rw [hr] at h2
            cases h2
            obtain ⟨e3, e4⟩ := rRow_nums k s1 N p1 hr
            exact ⟨by show (rRow rText k { s1 with N := N }).map _ = _; rw [e3]; rfl, e4.trans e2⟩
/-- What texts reads: fields, or texts, behind a place for how many. -/
def qRow (fields : Bool) : RS → Option RS := if fields then rItem else rText
/-- A field of pairs, or of fields, by what its row is. -/
theorem texts_of {fields : Bool} {s s1 : RS} (h : (if fields then rFields s else rPairs s) = some s1) : ∃ n s2, rRow (qRow fields) s.S.length (rKeep 0 s) = some (n, s2) ∧ s1 = { s2 with N := s2.N.set s.N.length (n : Int) } := by
  cases fields with
  | true =>
    have h1 : (rRow rItem s.S.length (rKeep 0 s)).map (fun p => { p.2 with N := p.2.N.set s.N.length p.1 }) = some s1 := h
    cases hr : rRow rItem s.S.length (rKeep 0 s) with
    | none => rw [hr] at h1; cases h1
    | some p => rw [hr] at h1; cases h1; exact ⟨p.1, p.2, hr, rfl⟩
  | false =>
    have h1 : ((rRow rText s.S.length s).bind fun p => if p.1 % 2 = 0 then some (rKeep p.1 p.2) else none) = some s1 := h
    cases hr : rRow rText s.S.length s with
    | none => rw [hr] at h1; cases h1
    | some p =>
      rw [hr] at h1
      have h2 : (if p.1 % 2 = 0 then some (rKeep p.1 p.2) else none) = some s1 := h1
      split at h2
      · cases h2
        obtain ⟨e1, e2⟩ := rRow_nums _ s (s.N ++ [0]) p hr
        refine ⟨p.1, _, e1, ?_⟩
        show (⟨p.2.S, p.2.T, p.2.N ++ [(p.1 : Int)]⟩ : RS) = ⟨p.2.S, p.2.T, (s.N ++ [(0 : Int)]).set s.N.length (p.1 : Int)⟩
        rw [e2]
        congr 1
        rw [List.set_append_right _ _ (Nat.le_refl _), Nat.sub_self]; rfl
      · cases h2
/-- A row's reading, step by step: what was read, and what is to be read. -/
theorem rRow_stop {f : RS → Option RS} {k : Nat} {s : RS} {r : Bs} (hs : s.S = 0 :: r) {p : Nat × RS} (h : rRow f k s = some p) : p = (0, { s with S := r }) := by
  obtain ⟨S, T, N⟩ := s
  cases k with
  | zero => cases h
  | succ k =>
    subst hs
    have h1 : (if (0 : UInt8) = 0 then some (0, (⟨r, T, N⟩ : RS)) else (f ⟨0 :: r, T, N⟩).bind fun s1 => (rRow f k s1).map fun p => (p.1 + 1, p.2)) = some p := h
    rw [if_pos rfl] at h1
    exact (Option.some.inj h1).symm
theorem rRow_none {f : RS → Option RS} {k : Nat} {s : RS} (hs : s.S = []) : rRow f k s = none := by
  obtain ⟨S, T, N⟩ := s
  subst hs
  cases k <;> rfl
theorem rRow_next {f : RS → Option RS} {k : Nat} {s : RS} {b : UInt8} {r : Bs} (hs : s.S = b :: r) (hb : b ≠ 0) {p : Nat × RS} (h : rRow f k s = some p) : ∃ k' s1 p1, f s = some s1 ∧ rRow f k' s1 = some p1 ∧ p = (p1.1 + 1, p1.2) := by
  obtain ⟨S, T, N⟩ := s
  cases k with
  | zero => cases h
  | succ k =>
    subst hs
    have h1 : (if b = 0 then some (0, (⟨r, T, N⟩ : RS)) else (f ⟨b :: r, T, N⟩).bind fun s1 => (rRow f k s1).map fun p => (p.1 + 1, p.2)) = some p := h
    rw [if_neg hb] at h1
    cases hf : f ⟨b :: r, T, N⟩ with
    | none => rw [hf] at h1; cases h1
    | some s1 =>
      rw [hf] at h1
      have h2 : (rRow f k s1).map (fun p => (p.1 + 1, p.2)) = some p := h1
      cases hr : rRow f k s1 with
      | none => rw [hr] at h2; cases h2
      | some p1 => rw [hr] at h2; cases h2; exact ⟨k, s1, p1, rfl, hr, rfl⟩
/-- The text up to a byte 0, if there is one. -/
def qEnd (q : QS) : Bs × QS := if (0 : UInt8) ∈ q.s.S then (q.s.S.takeWhile (· != 0), ⟨{ q.s with S := q.s.S.drop ((q.s.S.takeWhile (· != 0)).length + 1) }, q.bad⟩) else ([], ⟨q.s, true⟩)
theorem qEnd_text {s s1 : RS} {bad : Bool} (h : rText s = some s1) : s1 = { (qEnd ⟨s, bad⟩).2.s with T := s.T ++ [(qEnd ⟨s, bad⟩).1] } ∧ (qEnd ⟨s, bad⟩).2.bad = bad := by
  unfold rText at h
  unfold qEnd
  by_cases h0 : (0 : UInt8) ∈ s.S
  · rw [if_pos h0] at h
    rw [if_pos (show (0 : UInt8) ∈ (QS.mk s bad).s.S from h0)]
    cases h
    exact ⟨rfl, rfl⟩
  · rw [if_neg h0] at h; cases h
/-- A number of k bytes; with a sign, if it is of more than one. -/
def qVal (k : Nat) (b : Bs) : Int := if k = 1 then (unsig b : Int) else sgnM k (unsig b)
def qNum (k : Nat) (q : QS) : Int × QS := if q.s.S.length < k then (0, ⟨q.s, true⟩) else (qVal k (q.s.S.take k), ⟨{ q.s with S := q.s.S.drop k }, q.bad⟩)
theorem qNum_byte {s s1 : RS} {bad : Bool} (h : rByte s = some s1) : s1 = rKeep (qNum 1 ⟨s, bad⟩).1 (qNum 1 ⟨s, bad⟩).2.s ∧ (qNum 1 ⟨s, bad⟩).2.bad = bad := by
  unfold rByte rUnsigned rTake at h
  unfold qNum
  by_cases hl : 1 ≤ s.S.length
  · rw [if_pos hl] at h
    rw [if_neg (show ¬ (QS.mk s bad).s.S.length < 1 by show ¬ s.S.length < 1; omega)]
    cases h
    exact ⟨rfl, rfl⟩
  · rw [if_neg hl] at h; cases h
theorem qNum_signed {k : Nat} {s : RS} {bad : Bool} {p : Int × RS} (hk : k ≠ 1) (h : rSigned k s = some p) : p = ((qNum k ⟨s, bad⟩).1, (qNum k ⟨s, bad⟩).2.s) ∧ (qNum k ⟨s, bad⟩).2.bad = bad := by
  unfold rSigned rTake at h
  unfold qNum
  by_cases hl : k ≤ s.S.length
  · rw [if_pos hl] at h
    rw [if_neg (show ¬ (QS.mk s bad).s.S.length < k by show ¬ s.S.length < k; omega)]
    cases h
    refine ⟨?_, rfl⟩
    show (_, _) = (qVal k (s.S.take k), _)
    unfold qVal
    rw [if_neg hk]
  · rw [if_neg hl] at h; cases h
theorem qEnd_pot (q : QS) : (qEnd q).2.s.S.length + (qEnd q).1.length + (if (0 : UInt8) ∈ q.s.S then 1 else 0) = q.s.S.length ∧ (qEnd q).2.s.T = q.s.T ∧ (qEnd q).2.s.N = q.s.N := by
  unfold qEnd
  by_cases h0 : (0 : UInt8) ∈ q.s.S
  · rw [if_pos h0, if_pos h0]
    refine ⟨?_, rfl, rfl⟩
    have h1 : (q.s.S.takeWhile (· != 0)).length < q.s.S.length := by
      have : ∀ l : Bs, (0 : UInt8) ∈ l → (l.takeWhile (· != 0)).length < l.length := by
        intro l
        induction l with
        | nil => intro h; cases h
        | cons a r ih =>
          intro h
          by_cases ha : a = 0
          · subst ha; simp
          · have h2 : (0 : UInt8) ∈ r := by
              rcases List.mem_cons.1 h with e | e
              · exact absurd e.symm ha
              · exact e
            have := ih h2
            rw [List.takeWhile_cons, if_pos (by simpa using ha)]
            simp only [List.length_cons]
            omega
      exact this _ h0
    show (q.s.S.drop _).length + (q.s.S.takeWhile (· != 0)).length + 1 = _
    rw [List.length_drop]
    omega
  · rw [if_neg h0, if_neg h0]
    exact ⟨by simp, rfl, rfl⟩
theorem qNum_pot (k : Nat) (q : QS) : (qNum k q).2.s.S.length + (if q.s.S.length < k then 0 else k) = q.s.S.length ∧ (qNum k q).2.s.T = q.s.T ∧ (qNum k q).2.s.N = q.s.N := by
  unfold qNum
  by_cases h : q.s.S.length < k
  · rw [if_pos h, if_pos h]; exact ⟨rfl, rfl, rfl⟩
  · rw [if_neg h, if_neg h]
    refine ⟨?_, rfl, rfl⟩
    show (q.s.S.drop k).length + k = _
    rw [List.length_drop]; omega
end Go.Proofs.YtmofnkinclckoaaGreatDoor

namespace Go.Proofs.YtmofnkinclckoaaGreatDoor
open Go.RowKit Go.Lib Go.WideShapes

theorem takeWhile_at : ∀ (l : Bs) (i : Nat), (∀ j, j < i → l[j]? ≠ some 0) → l[i]? = some 0 → l.takeWhile (· != 0) = l.take i
  | [], i, _, h => by cases h
  | a :: r, 0, _, h => by
    obtain rfl := Option.some.inj h
    rfl
  | a :: r, i + 1, h, h0 => by
    have ha : a ≠ 0 := fun e => h 0 (Nat.zero_lt_succ _) (by rw [e]; rfl)
    rw [List.takeWhile_cons, if_pos (by simpa using ha), List.take_succ_cons, takeWhile_at r i (fun j hj => h (j + 1) (Nat.succ_lt_succ hj)) h0]
set_option maxRecDepth 100000 in
set_option maxHeartbeats 4000000 in
theorem qend_any (w0 w : World) (k : Int) (q : QS) (hr : qpot q.s ≤ 1000000) (h : IsQ w0 w k q) :
    Calls Tryz.prog 59 #[.pointer (some ⟨w0.heap.size, 0, none⟩)] w fun e w' => e = .returned (.string ⟨(qEnd q).1.toArray⟩) ∧ IsQ w0 w' k (qEnd q).2 := by
  obtain ⟨tv, nv, hW⟩ := h
  obtain ⟨c0, c1, c2, c3, c4⟩ := hW.cell
  have f0 := hW.frozen 0
  have f4 := hW.frozen 4
  have hl : q.s.S.length ≤ 1000000 := by unfold qpot at hr; omega
  obtain ⟨sb, hsb⟩ : ∃ z : ByteArray, z = ⟨q.s.S.toArray⟩ := ⟨_, rfl⟩
  have hsz : sb.size = q.s.S.length := by rw [hsb, bsize]
  have hbb : bytes sb = q.s.S := by simp [hsb, bytes]
  rw [← hsb] at c0
  have hs1 : sb.size ≤ 1000000 := by omega
  have HW := Lib.hid hW; have HSB := Lib.hid hsb; have HBB := Lib.hid hbb; have HSZ := Lib.hid hsz
  clear hW c1 c2 c3 hr hl hsb hsz hbb
  go_enter Tryz.func59, Tryz.ntmps59
  go_wp2_with fail
  go_loopg [3] sb.size (fun m i wr => ∃ j : Nat, i = .int .i64 j ∧ j ≤ sb.size ∧ m = sb.size - j ∧ wr = w ∧ ∀ j' : Nat, j' < j → q.s.S[j']? ≠ some 0)
  case atStart => exact ⟨0, rfl, Nat.zero_le _, rfl, rfl, fun i h => absurd h (Nat.not_lt_zero _)⟩
  case round =>
    obtain ⟨j, rfl, hj, hm, rfl, ho⟩ := hrel
    have HO := Lib.hid ho; have HGK := Lib.hid hm
    clear ho hm
    by_cases hlt : j < sb.size
    · have hlt' : (j : Int) < sb.size := by omega
      have hgx : q.s.S[j]? = some sb[j] := by
        rw [← HBB.out, List.getElem?_eq_getElem (by rw [blen]; exact hlt)]; rfl
      by_cases hc : sb[j] = 0
      · have hc2 : ((sb[j].toNat : Int) == 0) = true := by rw [hc]; rfl
        have hmem : (0 : UInt8) ∈ q.s.S := by rw [hc] at hgx; exact List.mem_of_getElem? hgx
        have htw := takeWhile_at q.s.S j HO.out (by rw [hgx, hc])
        have HE := Lib.hid (show qEnd q = (q.s.S.take j, ⟨{ q.s with S := q.s.S.drop (j + 1) }, q.bad⟩) from by
          unfold qEnd
          rw [if_pos hmem, htw, List.length_take, Nat.min_eq_left (by have := HSZ.out; omega)])
        have HP := Lib.hid (HW.out.putS (q.s.S.drop (j + 1)))
        rw [← drop_list, ← HSB.out] at HP
        have HT := Lib.hid (take_list q.s.S j)
        rw [← HSB.out] at HT
        have hj1 : (j : Int) + 1 ≤ sb.size := by omega
        clear hc hgx hmem htw
        go_wp2_with fail
        go_ret
        rw [HE.out]
        exact ⟨by rw [← HT.out]; rfl, _, _, HP.out⟩
      · have hc2 : ((sb[j].toNat : Int) == 0) = false := by
          cases hb : ((sb[j].toNat : Int) == 0) with
          | false => rfl
          | true => exact absurd (UInt8.toNat_inj.1 (Int.ofNat.inj (eq_of_beq hb))) hc
        have HN := Lib.hid (show ∀ j' : Nat, j' < j + 1 → q.s.S[j']? ≠ some 0 from fun j' hi => by
          by_cases hik : j' = j
          · subst hik
            rw [hgx]; exact fun e => hc (Option.some.inj e)
          · exact HO.out j' (by omega))
        clear hc hgx
        go_wp2_with fail
        go_roundg (sb.size - (j + 1))
        case measure => have := HGK.out; omega
        case rel => exact ⟨j + 1, by go_num, by omega, rfl, rfl, HN.out⟩
    · have hge : ¬ (j : Int) < sb.size := by omega
      have hno : (0 : UInt8) ∉ q.s.S := fun hm => by
        obtain ⟨m, hm1, hm2⟩ := List.mem_iff_getElem.1 hm
        exact HO.out m (by have := HSZ.out; omega) (by rw [List.getElem?_eq_getElem hm1, hm2])
      have HE := Lib.hid (show qEnd q = ([], ⟨q.s, true⟩) from if_neg hno)
      have HP := Lib.hid HW.out.putBad
      clear hno hlt
      go_wp2_with fail
      go_ret
      rw [HE.out]
      exact ⟨rfl, _, _, HP.out⟩
theorem unsig_two (a b : UInt8) : unsig [a, b] = a.toNat * 256 + b.toNat := by simp [unsig]
theorem unsig_four (a b c d : UInt8) : unsig [a, b, c, d] = a.toNat * 16777216 + b.toNat * 65536 + c.toNat * 256 + d.toNat := by simp [unsig]; omega
/-- The sign of a number is in its first byte. -/
theorem qVal_sign {k : Nat} {b : Bs} {a : UInt8} (hk : k = 2 ∨ k = 4) (hb : b.length = k) (ha : b[0]? = some a) : qVal k b = if 128 ≤ a.toNat then (unsig b : Int) - (256 ^ k : Nat) else (unsig b : Int) := by
  unfold qVal sgnM
  rcases hk with rfl | rfl
  · match b, hb, ha with
    | [x, y], _, ha =>
      obtain rfl := Option.some.inj ha
      rw [if_neg (by decide), unsig_two]
      have := UInt8.toNat_lt y
      by_cases h : 128 ≤ x.toNat
      · rw [if_pos h, if_pos (by show (65536 : Int) / 2 ≤ _; omega)]
      · rw [if_neg h, if_neg (by show ¬ (65536 : Int) / 2 ≤ _; omega)]
  · match b, hb, ha with
    | [x, y, z, t], _, ha =>
      obtain rfl := Option.some.inj ha
      rw [if_neg (by decide), unsig_four]
      have := UInt8.toNat_lt y
      have := UInt8.toNat_lt z
      have := UInt8.toNat_lt t
      by_cases h : 128 ≤ x.toNat
      · rw [if_pos h, if_pos (by show (4294967296 : Int) / 2 ≤ _; omega)]
      · rw [if_neg h, if_neg (by show ¬ (4294967296 : Int) / 2 ≤ _; omega)]
set_option maxRecDepth 100000 in
set_option maxHeartbeats 8000000 in
theorem qnum_any (w0 w : World) (k : Int) (q : QS) (n : Nat) (hn : n = 1 ∨ n = 2 ∨ n = 4) (hr : qpot q.s ≤ 1000000) (h : IsQ w0 w k q) :
    Calls Tryz.prog 61 #[.pointer (some ⟨w0.heap.size, 0, none⟩), .int .i64 n] w fun e w' => e = .returned (.int .i64 (qNum n q).1) ∧ IsQ w0 w' k (qNum n q).2 := by
  obtain ⟨tv, nv, hW⟩ := h
  obtain ⟨c0, c1, c2, c3, c4⟩ := hW.cell
  have f0 := hW.frozen 0
  have f4 := hW.frozen 4
  have hl : q.s.S.length ≤ 1000000 := by unfold qpot at hr; omega
  obtain ⟨sb, hsb⟩ : ∃ z : ByteArray, z = ⟨q.s.S.toArray⟩ := ⟨_, rfl⟩
  have hsz : sb.size = q.s.S.length := by rw [hsb, bsize]
  have hbb : bytes sb = q.s.S := by simp [hsb, bytes]
  rw [← hsb] at c0
  have hs1 : sb.size ≤ 1000000 := by omega
  have HW := Lib.hid hW; have HSB := Lib.hid hsb; have HBB := Lib.hid hbb; have HSZ := Lib.hid hsz
  have hn4 : 1 ≤ n ∧ n ≤ 4 := by omega
  clear hW c1 c2 c3 hr hl hsb hsz hbb
  by_cases hsh : sb.size < n
  · have hsh' : (sb.size : Int) < n := by omega
    have HE := Lib.hid (show qNum n q = (0, ⟨q.s, true⟩) from if_pos (by rw [← HSZ.out]; exact hsh))
    have HP := Lib.hid HW.out.putBad
    go_enter Tryz.func61, Tryz.ntmps61
    go_wp2_with fail
    go_ret
    rw [HE.out]
    exact ⟨rfl, _, _, HP.out⟩
  have hsh' : ¬ (sb.size : Int) < n := by omega
  have HE := Lib.hid (show qNum n q = (qVal n (q.s.S.take n), ⟨{ q.s with S := q.s.S.drop n }, q.bad⟩) from if_neg (by rw [← HSZ.out]; exact hsh))
  have HP := Lib.hid (HW.out.putS (q.s.S.drop n))
  rw [← drop_list, ← HSB.out] at HP
  have HLT := Lib.hid (show ∀ j, unsig (q.s.S.take j) < 256 ^ j from fun j => Nat.lt_of_lt_of_le (unsig_lt _) (Nat.pow_le_pow_right (by decide) (List.length_take_le _ _)))
  go_enter Tryz.func61, Tryz.ntmps61
  go_wp2_with fail
  go_loopw [5, 6] (fun nv i wr => ∃ j : Nat, i = .int .i64 j ∧ j ≤ n ∧ nv = .int .i64 (unsig (q.s.S.take j) : Nat) ∧ wr = w) (fun _ i _ => n - (RowKit.intOf i).toNat)
  case atStart => exact ⟨0, rfl, Nat.zero_le _, rfl, rfl⟩
  case round =>
    obtain ⟨j, rfl, hj, rfl, rfl⟩ := hrel
    by_cases hlt : j < n
    · have hlt' : (j : Int) < n := by omega
      have hjs : (j : Int) < sb.size := by omega
      have hgx : q.s.S[j]? = some sb[j] := by
        rw [← HBB.out, List.getElem?_eq_getElem (by rw [blen]; omega)]; rfl
      have hjb : j < q.s.S.length := by have := HSZ.out; omega
      have HN := Lib.hid (show unsig (q.s.S.take (j + 1)) = unsig (q.s.S.take j) * 256 + sb[j].toNat from by
        have h1 : q.s.S.take (j + 1) = q.s.S.take j ++ [sb[j]] := by
          rw [List.take_add_one, hgx]; rfl
        rw [h1, unsig_snoc])
      have hu : unsig (q.s.S.take j) < 16777216 := by
        have h1 := HLT.out j
        have h2 : 256 ^ j ≤ 256 ^ 3 := Nat.pow_le_pow_right (by decide) (by omega)
        exact Nat.lt_of_lt_of_le h1 h2
      have hbt : sb[j].toNat < 256 := UInt8.toNat_lt _
      generalize unsig (q.s.S.take j) = u at hu HN ⊢
      have hu' : (u : Int) ≤ 16777216 := by omega
      clear hgx hjb
      go_wp2_with fail
      go_roundw
      case measure => first | omega | (simp [RowKit.intOf]; done) | (simp [RowKit.intOf]; omega)
      case rel => exact ⟨j + 1, by go_num, by omega, by rw [HN.out]; exact congrArg (Value.int .i64) (by omega), by first | rfl | trivial⟩
    · have hjn : j = n := by omega
      subst hjn
      have hge : ¬ (j : Int) < j := by omega
      clear hlt
      rcases hn with rfl | rfl | rfl
      · have HQ2 := Lib.hid (show qVal 1 (q.s.S.take 1) = (unsig (q.s.S.take 1) : Int) from if_pos rfl)
        have hnz : (1 : Int) ≤ sb.size := by omega
        generalize unsig (q.s.S.take 1) = u at HQ2 ⊢
        go_wp2_with fail
        go_ret
        rw [HE.out]
        exact ⟨by rw [HQ2.out]; rfl, _, _, HP.out⟩
      · have hgx : q.s.S[0]? = some (sb[0]'(by omega)) := by
          rw [← HBB.out, List.getElem?_eq_getElem (by rw [blen]; omega)]; rfl
        have h0s : (0 : Int) < sb.size := by omega
        have h0n : 0 < sb.size := by omega
        have hnz : (2 : Int) ≤ sb.size := by omega
        have hqs := qVal_sign (k := 2) (b := q.s.S.take 2) (a := sb[0]'(by omega)) (by decide) (by rw [List.length_take, Nat.min_eq_left (by have := HSZ.out; omega)]) (by rw [List.getElem?_take_of_lt (by decide)]; exact hgx)
        have hu : unsig (q.s.S.take 2) < 65536 := HLT.out 2
        have HQ := Lib.hid hqs
        generalize unsig (q.s.S.take 2) = u at hu HQ ⊢
        have hu' : (u : Int) < 65536 := by omega
        have hw : IntKind.i64.wrap 16 = 16 := rfl
        have hw2 : IntKind.i64.wrap 65536 = 65536 := rfl
        clear hgx hqs
        by_cases h128 : 128 ≤ (sb[0]'(by omega)).toNat
        · have h1 : decide ((128 : Int) ≤ ((sb[0]'(by omega)).toNat : Nat)) = true := decide_eq_true (by omega)
          have HQ2 := Lib.hid (show qVal 2 (q.s.S.take 2) = (u : Int) - 65536 from by rw [HQ.out, if_pos h128]; rfl)
          clear h128
          go_wp2_with fail
          go_ret
          rw [HE.out]
          exact ⟨by rw [HQ2.out]; rfl, _, _, HP.out⟩
        · have h1 : decide ((128 : Int) ≤ ((sb[0]'(by omega)).toNat : Nat)) = false := decide_eq_false (by omega)
          have HQ2 := Lib.hid (show qVal 2 (q.s.S.take 2) = (u : Int) from by rw [HQ.out, if_neg h128])
          clear h128
          go_wp2_with fail
          go_ret
          rw [HE.out]
          exact ⟨by rw [HQ2.out]; rfl, _, _, HP.out⟩
      · have hgx : q.s.S[0]? = some (sb[0]'(by omega)) := by
          rw [← HBB.out, List.getElem?_eq_getElem (by rw [blen]; omega)]; rfl
        have h0s : (0 : Int) < sb.size := by omega
        have h0n : 0 < sb.size := by omega
        have hnz : (4 : Int) ≤ sb.size := by omega
        have hqs := qVal_sign (k := 4) (b := q.s.S.take 4) (a := sb[0]'(by omega)) (by decide) (by rw [List.length_take, Nat.min_eq_left (by have := HSZ.out; omega)]) (by rw [List.getElem?_take_of_lt (by decide)]; exact hgx)
        have hu : unsig (q.s.S.take 4) < 4294967296 := HLT.out 4
        have HQ := Lib.hid hqs
        generalize unsig (q.s.S.take 4) = u at hu HQ ⊢
        have hu' : (u : Int) < 4294967296 := by omega
        have hw : IntKind.i64.wrap 32 = 32 := rfl
        have hw2 : IntKind.i64.wrap 4294967296 = 4294967296 := rfl
        clear hgx hqs
        by_cases h128 : 128 ≤ (sb[0]'(by omega)).toNat
        · have h1 : decide ((128 : Int) ≤ ((sb[0]'(by omega)).toNat : Nat)) = true := decide_eq_true (by omega)
          have HQ2 := Lib.hid (show qVal 4 (q.s.S.take 4) = (u : Int) - 4294967296 from by rw [HQ.out, if_pos h128]; rfl)
          clear h128
          go_wp2_with fail
          go_ret
          rw [HE.out]
          exact ⟨by rw [HQ2.out]; rfl, _, _, HP.out⟩
        · have h1 : decide ((128 : Int) ≤ ((sb[0]'(by omega)).toNat : Nat)) = false := decide_eq_false (by omega)
          have HQ2 := Lib.hid (show qVal 4 (q.s.S.take 4) = (u : Int) from by rw [HQ.out, if_neg h128])
          clear h128
          go_wp2_with fail
          go_ret
          rw [HE.out]
          exact ⟨by rw [HQ2.out]; rfl, _, _, HP.out⟩
end Go.Proofs.YtmofnkinclckoaaGreatDoor
