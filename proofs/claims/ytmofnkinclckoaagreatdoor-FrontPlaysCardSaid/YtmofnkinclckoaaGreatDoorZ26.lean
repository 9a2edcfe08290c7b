/- Contracts and mathematics: QT. -/
import Derived.Test.YtmofnkinclckoaaGreatDoorZ25
import Derived.Test.YtmofnkinclckoaaGreatDoorZ14
namespace Go.Proofs.YtmofnkinclckoaaGreatDoor
open Go.RowKit Go.Lib Go.WideShapes

/-- What an operation of the document's reader leaves: a state, of no more than so much; if the body can be read so far, then what is read. -/
def QOut (w0 : World) (k : Int) (m : Nat) (r : Option RS) (e : Ending) (w' : World) : Prop := e = .returned (.tuple #[]) ∧ ∃ q', IsQ w0 w' k q' ∧ qpot q'.s ≤ m ∧ ∀ s1, r = some s1 → q' = ⟨s1, false⟩
theorem IsQ.grow {w0 w w' : World} {k : Int} {q : QS} (h : IsQ w0 w k q) (hb : Below w.heap.size w w') : IsQ w0 w' k q := by
  obtain ⟨tv, nv, h⟩ := h
  exact ⟨tv, nv, h.grow hb⟩
/-- A number of the row written anew. -/
theorem QAt.setN {w0 w : World} {kk : Int} {q : QS} {tv : Value} {g c k : Nat} (h : QAt w0 w kk q tv (.slice (some ⟨g, 0, none⟩) k c)) (hk : q.s.N.length = k) (i : Nat) (n : Int) : QAt w0 (w.setCell ⟨g, i, none⟩ (.int .i64 n)) kk ⟨{ q.s with N := q.s.N.set i n }, q.bad⟩ tv (.slice (some ⟨g, 0, none⟩) k c) := by
  have hr := own_room (by have := h.nums; rw [hk] at this; exact this)
  have hg : w0.heap.size + 1 ≤ g := hr.2.2.1
  have hN : w.ownsRow (w0.heap.size + 1) 3 1 (.slice (some ⟨g, 0, none⟩) k c) k (ncells q.s.N) := by have := h.nums; rw [hk] at this; exact this
  obtain ⟨h1, h2⟩ := own_stored hN [.int .i64 n] i
  rw [setL_one, ncells_set] at h1
  have hT : (w.setCell ⟨g, i, none⟩ (.int .i64 n)).ownsRow (w0.heap.size + 1) 9 1 tv q.s.T.length (tcells q.s.T) :=
    h.texts.kept h2 (own_apart hN h.texts string_ne_int.symm)
  exact ⟨h.below.setCell (by show w0.heap.size ≤ g; omega) _, (Below.heap_setCell _ _ _ _ (by show w0.heap.size ≠ g; omega)).trans h.heap, hT, by
    show (w.setCell ⟨g, i, none⟩ (.int .i64 n)).ownsRow _ _ 1 _ (q.s.N.set i n).length (ncells (q.s.N.set i n))
    rw [List.length_set, hk]
    exact h1⟩
theorem qpot_keep (n : Int) (s : RS) : qpot (rKeep n s) = qpot s + 1 := by
  show s.S.length + (s.T.map List.length).sum + s.T.length + (s.N ++ [n]).length = _
  rw [List.length_append, List.length_singleton]
  rfl
theorem qpot_num (k : Nat) (q : QS) : qpot (qNum k q).2.s + (if q.s.S.length < k then 0 else k) = qpot q.s := by
  obtain ⟨h1, h2, h3⟩ := qNum_pot k q
  unfold qpot
  rw [h2, h3]
  omega
theorem qpot_text (q : QS) : qpot { (qEnd q).2.s with T := q.s.T ++ [(qEnd q).1] } + (if (0 : UInt8) ∈ q.s.S then 1 else 0) = qpot q.s + 1 := by
  obtain ⟨h1, h2, h3⟩ := qEnd_pot q
  show (qEnd q).2.s.S.length + ((q.s.T ++ [(qEnd q).1]).map List.length).sum + (q.s.T ++ [(qEnd q).1]).length + (qEnd q).2.s.N.length + _ = _
  rw [h3, List.map_append, List.sum_append, List.length_append]
  simp only [List.map_cons, List.map_nil, List.sum_cons, List.sum_nil, List.length_cons, List.length_nil]
  unfold qpot
  omega
theorem qEnd_bad (q : QS) : (qEnd q).2.bad = if (0 : UInt8) ∈ q.s.S then q.bad else true := by
  unfold qEnd
  by_cases h : (0 : UInt8) ∈ q.s.S
  · rw [if_pos h, if_pos h]
  · rw [if_neg h, if_neg h]
theorem infoQ_string : (Tryz.prog.info? 9).map (fun i => (i.zero, i.size, i.bytes)) = some (some (.string { data := #[] }), 1, 16) := by kernel_rfl
/-- How much is to be read yet. -/
def qmeas (p : Nat) (w : World) : Nat := match w.cell? ⟨p, 4, none⟩ with
  | some (.bool false) => (match w.cell? ⟨p, 0, none⟩ with
    | some (.string s) => s.size + 1
    | _ => 0)
  | _ => 0
theorem qmeas_on {w0 w : World} {k : Int} {q : QS} {tv nv : Value} (h : QAt w0 w k q tv nv) : qmeas w0.heap.size w = if q.bad then 0 else q.s.S.length + 1 := by
  obtain ⟨c0, _, _, _, c4⟩ := h.cell
  unfold qmeas
  rw [c4, c0]
  cases q.bad
  · show (⟨q.s.S.toArray⟩ : ByteArray).size + 1 = _
    rw [bsize]; rfl
  · rfl
set_option maxRecDepth 100000 in
set_option maxHeartbeats 16000000 in
theorem qtexts_any (w0 w : World) (k : Int) (fields : Bool) (s : RS) (hr : qpot s ≤ 900000) (h : IsQ w0 w k ⟨s, false⟩) :
    Calls Tryz.prog 62 #[.pointer (some ⟨w0.heap.size, 0, none⟩), .bool fields] w (QOut w0 k (qpot s + 2) (if fields then rFields s else rPairs s)) := by
  have HTX := Lib.hid (fun s1 => texts_of (fields := fields) (s := s) (s1 := s1))
  obtain ⟨tv0, nv0, hQ0⟩ := h
  obtain ⟨a0, n0, rfl⟩ := ownsRow_form hQ0.nums
  obtain ⟨c0, c1, c2, c3, c4⟩ := hQ0.cell
  have HK := Lib.hid (qkeep_any w0 w k ⟨s, false⟩ 0 (by show qpot s ≤ _; omega) ⟨_, _, hQ0⟩)
  obtain ⟨at', hat⟩ : ∃ a, a = s.N.length := ⟨_, rfl⟩
  have hatz : at' ≤ 900000 := by rw [hat]; unfold qpot at hr; omega
  rw [show (QS.mk s false).s.N.length = at' from hat.symm] at c3
  have HAT := Lib.hid hat
  generalize hRR : (if fields then rFields s else rPairs s) = RR at HTX ⊢
  clear hQ0 c0 c1 c2 c4 hat hRR
  obtain ⟨i0, hi, y0, y1, y2⟩ := info_parts infoQ_string
  go_enter Tryz.func62, Tryz.ntmps62
  go_wp2_with fail
  refine HK.out.mono ?_; rintro e w1 ⟨rfl, hI1⟩
  have HI1 := Lib.hid hI1
  clear hI1 HK c3
  go_wp2_with fail
  go_loopw [5] (fun mv wr => ∃ (m : Nat) (q : QS), mv = .int .i64 m ∧ IsQ w0 wr k q ∧ qpot q.s ≤ qpot s + 1 + (if q.bad then 1 else 0) ∧ at' < q.s.N.length ∧ m + q.s.S.length ≤ s.S.length + (if q.bad then 1 else 0) ∧ ∀ n s2, rRow (qRow fields) s.S.length (rKeep 0 s) = some (n, s2) → q.bad = false ∧ ∃ k' n', rRow (qRow fields) k' q.s = some (n', s2) ∧ n = n' + m) (fun _ wr => qmeas w0.heap.size wr)
  case atStart => exact ⟨0, _, rfl, HI1.out, by rw [qpot_keep]; exact Nat.le_refl _, by show at' < (s.N ++ [0]).length; rw [HAT.out]; simp, by show 0 + s.S.length ≤ _; simp, fun n s2 h => ⟨rfl, _, n, h, rfl⟩⟩
  case round =>
    obtain ⟨m, q, rfl, hI, hp, hal, hm, ht⟩ := hrel
    have HT := Lib.hid ht
    obtain ⟨tv, nv, hQ⟩ := hI
    have HQ := Lib.hid hQ
    have HME := Lib.hid (qmeas_on hQ)
    obtain ⟨c0, c1, c2, c3, c4⟩ := hQ.cell
    have hpb : qpot q.s ≤ 900003 := by split at hp <;> omega
    have hmz : m ≤ 900001 := by unfold qpot at hr; split at hm <;> omega
    obtain ⟨sb, hsb⟩ : ∃ z : ByteArray, z = ⟨q.s.S.toArray⟩ := ⟨_, rfl⟩
    have hsz : sb.size = q.s.S.length := by rw [hsb, bsize]
    have hbb : bytes sb = q.s.S := by simp [hsb, bytes]
    rw [← hsb] at c0
    have HBB := Lib.hid hbb; have HSZ := Lib.hid hsz; have HP := Lib.hid hp; have HM := Lib.hid hm; have HAL := Lib.hid hal
    clear ht hQ hsb hsz hbb hp hm hal c1 c2 c3
    by_cases hbad : q.bad = true
    · rw [hbad] at c4
      go_wp2_with fail
      refine (qnum_any w0 wr k q 1 (.inl rfl) (by omega) ⟨_, _, HQ.out⟩).mono ?_; rintro e w3 ⟨rfl, tv3, nv3, hQ3⟩
      have hNe := (qNum_pot 1 q).2.2
      have hal9 := HAL.out
      obtain ⟨g3, cc3, rfl⟩ : ∃ g c, nv3 = .slice (some ⟨g, 0, none⟩) (qNum 1 q).2.s.N.length c := by
        rcases hQ3.nums.2 with ⟨_, h0⟩ | ⟨g, cap, cur, e1, _⟩
        · rw [hNe] at h0; omega
        · exact ⟨g, cap, e1⟩
      have hr3 := own_room hQ3.nums
      have d3 := hQ3.cell.2.2.2.1
      have hNL : at' < (qNum 1 q).2.s.N.length := by rw [hNe]; exact hal9
      have hNL' : (at' : Int) < ((qNum 1 q).2.s.N.length : Nat) := by omega
      obtain ⟨y, hy⟩ := Option.isSome_iff_exists.1 (hr3.2.2.2.2.2.2 at' (by have := hr3.1; omega))
      have hfz := hr3.2.2.2.2.2.1 at'
      have HP3 := Lib.hid (hQ3.setN rfl at' m)
      have hqp := qpot_num 1 q
      have HPP := Lib.hid (show qpot { (qNum 1 q).2.s with N := (qNum 1 q).2.s.N.set at' (m : Int) } ≤ qpot s + 2 from by
        have h1 : qpot { (qNum 1 q).2.s with N := (qNum 1 q).2.s.N.set at' (m : Int) } = qpot (qNum 1 q).2.s := by
          show _ + ((qNum 1 q).2.s.N.set at' (m : Int)).length = _
          rw [List.length_set]; rfl
        have h2 := HP.out
        split at h2 <;> split at hqp <;> omega)
      have HSU := Lib.hid (show ∀ s1, RR = some s1 → (⟨{ (qNum 1 q).2.s with N := (qNum 1 q).2.s.N.set at' (m : Int) }, (qNum 1 q).2.bad⟩ : QS) = ⟨s1, false⟩ from fun s1 h1 => by
        obtain ⟨n, s2, h2, h3⟩ := HTX.out s1 h1
        obtain ⟨h4, k', n', h5, h6⟩ := HT.out n s2 h2
        rw [hbad] at h4; cases h4)
      clear hQ3 hNe hal9 hr3 hNL hqp
      go_wp2_with fail
      go_end0
      exact ⟨rfl, _, ⟨_, _, HP3.out⟩, HPP.out, HSU.out⟩
    · have hb0 : q.bad = false := by simpa using hbad
      rw [hb0] at c4
      cases hS : q.s.S with
      | nil =>
        have hse : sb = { data := #[] } := by
          apply ByteArray.ext; apply Array.toList_inj.1; show bytes sb = []; rw [HBB.out, hS]
        subst hse
        have HSC := Lib.hid hS
        clear hS hb0
        go_wp2_with fail
        refine (qnum_any w0 wr k q 1 (.inl rfl) (by omega) ⟨_, _, HQ.out⟩).mono ?_; rintro e w3 ⟨rfl, tv3, nv3, hQ3⟩
        have hNe := (qNum_pot 1 q).2.2
        have hal9 := HAL.out
        obtain ⟨g3, cc3, rfl⟩ : ∃ g c, nv3 = .slice (some ⟨g, 0, none⟩) (qNum 1 q).2.s.N.length c := by
          rcases hQ3.nums.2 with ⟨_, h0⟩ | ⟨g, cap, cur, e1, _⟩
          · rw [hNe] at h0; omega
          · exact ⟨g, cap, e1⟩
        have hr3 := own_room hQ3.nums
        have d3 := hQ3.cell.2.2.2.1
        have hNL : at' < (qNum 1 q).2.s.N.length := by rw [hNe]; exact hal9
        have hNL' : (at' : Int) < ((qNum 1 q).2.s.N.length : Nat) := by omega
        obtain ⟨y, hy⟩ := Option.isSome_iff_exists.1 (hr3.2.2.2.2.2.2 at' (by have := hr3.1; omega))
        have hfz := hr3.2.2.2.2.2.1 at'
        have HP3 := Lib.hid (hQ3.setN rfl at' m)
        have hqp := qpot_num 1 q
        have HPP := Lib.hid (show qpot { (qNum 1 q).2.s with N := (qNum 1 q).2.s.N.set at' (m : Int) } ≤ qpot s + 2 from by
          have h1 : qpot { (qNum 1 q).2.s with N := (qNum 1 q).2.s.N.set at' (m : Int) } = qpot (qNum 1 q).2.s := by
            show _ + ((qNum 1 q).2.s.N.set at' (m : Int)).length = _
            rw [List.length_set]; rfl
          have h2 := HP.out
          split at h2 <;> split at hqp <;> omega)
        have HSU := Lib.hid (show ∀ s1, RR = some s1 → (⟨{ (qNum 1 q).2.s with N := (qNum 1 q).2.s.N.set at' (m : Int) }, (qNum 1 q).2.bad⟩ : QS) = ⟨s1, false⟩ from fun s1 h1 => by
          obtain ⟨n, s2, h2, h3⟩ := HTX.out s1 h1
          obtain ⟨h4, k', n', h5, h6⟩ := HT.out n s2 h2
          rw [rRow_none HSC.out] at h5; cases h5)
        clear hQ3 hNe hal9 hr3 hNL hqp
        go_wp2_with fail
        go_end0
        exact ⟨rfl, _, ⟨_, _, HP3.out⟩, HPP.out, HSU.out⟩
      | cons b r =>
        have hgx : q.s.S[0]? = some b := by rw [hS]; rfl
        have h0n : 0 < sb.size := by rw [HSZ.out, hS]; simp
        have h0s : (0 : Int) < sb.size := by omega
        have hse : sb.toList.isEmpty = false := by
          rw [Lib.toList_data]
          show (bytes sb).isEmpty = false
          rw [HBB.out, hS]; rfl
        have hbs : sb[0] = b := by
          have h1 : (bytes sb)[0]? = some sb[0] := by rw [List.getElem?_eq_getElem (by rw [blen]; exact h0n)]; rfl
          rw [HBB.out, hgx] at h1
          exact (Option.some.inj h1).symm
        have HSC := Lib.hid hS
        by_cases hbz : b = 0
        · have hc2 : ((sb[0].toNat : Int) != 0) = false := by rw [hbs, hbz]; rfl
          have HBZ := Lib.hid hbz
          clear hS hgx hbs hb0 hbz
          go_wp2_with fail
          refine (qnum_any w0 wr k q 1 (.inl rfl) (by omega) ⟨_, _, HQ.out⟩).mono ?_; rintro e w3 ⟨rfl, tv3, nv3, hQ3⟩
          have hNe := (qNum_pot 1 q).2.2
          have hal9 := HAL.out
          obtain ⟨g3, cc3, rfl⟩ : ∃ g c, nv3 = .slice (some ⟨g, 0, none⟩) (qNum 1 q).2.s.N.length c := by
            rcases hQ3.nums.2 with ⟨_, h0⟩ | ⟨g, cap, cur, e1, _⟩
            · rw [hNe] at h0; omega
            · exact ⟨g, cap, e1⟩
          have hr3 := own_room hQ3.nums
          have d3 := hQ3.cell.2.2.2.1
          have hNL : at' < (qNum 1 q).2.s.N.length := by rw [hNe]; exact hal9
          have hNL' : (at' : Int) < ((qNum 1 q).2.s.N.length : Nat) := by omega
          obtain ⟨y, hy⟩ := Option.isSome_iff_exists.1 (hr3.2.2.2.2.2.2 at' (by have := hr3.1; omega))
          have hfz := hr3.2.2.2.2.2.1 at'
          have HP3 := Lib.hid (hQ3.setN rfl at' m)
          have hqp := qpot_num 1 q
          have HPP := Lib.hid (show qpot { (qNum 1 q).2.s with N := (qNum 1 q).2.s.N.set at' (m : Int) } ≤ qpot s + 2 from by
            have h1 : qpot { (qNum 1 q).2.s with N := (qNum 1 q).2.s.N.set at' (m : Int) } = qpot (qNum 1 q).2.s := by
              show _ + ((qNum 1 q).2.s.N.set at' (m : Int)).length = _
              rw [List.length_set]; rfl
            have h2 := HP.out
            split at h2 <;> split at hqp <;> omega)
          have HSU := Lib.hid (show ∀ s1, RR = some s1 → (⟨{ (qNum 1 q).2.s with N := (qNum 1 q).2.s.N.set at' (m : Int) }, (qNum 1 q).2.bad⟩ : QS) = ⟨s1, false⟩ from fun s1 h1 => by
            obtain ⟨n, s2, h2, h3⟩ := HTX.out s1 h1
            obtain ⟨h4, k', n', h5, h6⟩ := HT.out n s2 h2
            rw [HBZ.out] at HSC
            have h7 := rRow_stop HSC.out h5
            have h8 : n' = 0 := congrArg Prod.fst h7
            have h9 : s2 = { q.s with S := r } := congrArg Prod.snd h7
            have h10 : qNum 1 q = (qVal 1 (q.s.S.take 1), ⟨{ q.s with S := q.s.S.drop 1 }, q.bad⟩) := if_neg (by rw [HSC.out]; simp)
            rw [h3, h9, h10, h6, h8, h4, HAT.out, HSC.out, Nat.zero_add]
            rfl)
          clear hQ3 hNe hal9 hr3 hNL hqp
          go_wp2_with fail
          go_end0
          exact ⟨rfl, _, ⟨_, _, HP3.out⟩, HPP.out, HSU.out⟩
        · have hc2 : ((sb[0].toNat : Int) != 0) = true := by
            rw [hbs]
            cases hb : ((b.toNat : Int) != 0) with
            | true => rfl
            | false => exact absurd (UInt8.toNat_inj.1 (Int.ofNat.inj (by simpa using hb))) hbz
          have HBZ := Lib.hid hbz
          clear hS hgx hbs hb0 hbz
          cases fields with
          | true =>
            go_wp2_with fail
            refine (qnum_any w0 wr k q 1 (.inl rfl) (by omega) ⟨_, _, HQ.out⟩).mono ?_; rintro e w2 ⟨rfl, hI2⟩
            have hqp := qpot_num 1 q
            rw [if_neg (show ¬ q.s.S.length < 1 by rw [HSC.out]; simp)] at hqp
            have HI2 := Lib.hid hI2
            clear hI2
            go_wp2_with fail
            refine (qkeep_any w0 w2 k (qNum 1 q).2 (qNum 1 q).1 (by omega) HI2.out).mono ?_; rintro e w3 ⟨rfl, hI3⟩
            obtain ⟨q2, hq2⟩ : ∃ z : QS, z = ⟨rKeep (qNum 1 q).1 (qNum 1 q).2.s, (qNum 1 q).2.bad⟩ := ⟨_, rfl⟩
            rw [← hq2] at hI3
            have HI3 := Lib.hid hI3
            have HP2 := Lib.hid (show qpot q2.s ≤ qpot s + 1 from by
              rw [hq2]
              show qpot (rKeep _ _) ≤ _
              rw [qpot_keep]
              have := HP.out
              rw [if_neg hbad] at this
              omega)
            have HS2 := Lib.hid (show q2.s.S.length + 1 = q.s.S.length from by
              have h := (qNum_pot 1 q).1
              rw [if_neg (show ¬ q.s.S.length < 1 by rw [HSC.out]; simp)] at h
              rw [hq2]; exact h)
            have HS2 := Lib.hid (show q2.s.S.length ≤ q.s.S.length from by have := HS2.out; omega)
            have HN2 := Lib.hid (show at' < q2.s.N.length from by
              rw [hq2]
              show at' < ((qNum 1 q).2.s.N ++ [(qNum 1 q).1]).length
              rw [(qNum_pot 1 q).2.2, List.length_append]
              have := HAL.out
              omega)
            have HSTEP := Lib.hid (show ∀ s9, qRow true q.s = some s9 → { (qEnd q2).2.s with T := (qEnd q2).2.s.T ++ [(qEnd q2).1] } = s9 ∧ (qEnd q2).2.bad = false from fun s9 h => by
              have h1 : (rByte q.s).bind rText = some s9 := h
              cases hb : rByte q.s with
              | none => rw [hb] at h1; cases h1
              | some sB =>
                rw [hb] at h1
                obtain ⟨e1, e2⟩ := qNum_byte (bad := q.bad) hb
                have e3 : q2 = ⟨sB, false⟩ := by
                  rw [hq2, e1]
                  congr 1
                  rw [e2]
                  simpa using hbad
                have h2 : rText sB = some s9 := h1
                obtain ⟨e4, e5⟩ := qEnd_text (bad := false) h2
                rw [e3]
                exact ⟨by rw [e4, (qEnd_pot ⟨sB, false⟩).2.1], e5⟩)
            clear hqp hI3 hq2
            go_wp2_with fail
            refine (qend_any w0 w3 k q2 (by have := HP2.out; omega) HI3.out).mono ?_; rintro e w4 ⟨rfl, tv4, nv4, hQ4⟩
            have HQ4 := Lib.hid hQ4
            have HP3 := Lib.hid (show qpot (qEnd q2).2.s ≤ 900001 from by
              have h := qEnd_pot q2
              have h2 := HP2.out
              unfold qpot at h2 ⊢
              rw [h.2.1, h.2.2]
              unfold qpot at hr
              omega)
            clear hQ4
            have hQ4r := HQ4.out
            obtain ⟨ta, tcc, rfl⟩ := ownsRow_form hQ4r.texts
            have d2 := hQ4r.cell.2.2.1
            have g2 := hQ4r.frozen 2
            have hz4 := hQ4r.lt
            have hTl : (qEnd q2).2.s.T.length ≤ 1000000 := by have := HP3.out; unfold qpot at this; omega
            obtain ⟨tb, htb⟩ : ∃ z : ByteArray, z = ⟨(qEnd q2).1.toArray⟩ := ⟨_, rfl⟩
            rw [← htb]
            have HTB := Lib.hid htb
            clear hQ4r htb
            go_wp2_with (at_builtin; refine wpList_append_at _ rfl (.tmp 47) (.tmp 49) 22 rfl (w0.heap.size + 1) 9 i0 (.string { data := #[] }) 1 16 Tryz.underlying22 hi y0 y1 y2 rfl (by decide) (.slice ta (qEnd q2).2.s.T.length tcc) (qEnd q2).2.s.T.length (tcells (qEnd q2).2.s.T) rfl (HQ4.out.texts.alloc _) ⟨w4.heap.size, 0, none⟩ 1 1 [.string tb] rfl rfl (fun j u h => by rw [Go.WideShapes.add_plain, Nat.zero_add, ← h]; exact (World.cell?_alloc_new w4 _ _ j).trans (by simp)) (by intro u hu; simp at hu; rcases hu with rfl; rfl) (by unfold maxLen; omega) (by omega) (by rw [World.size_alloc]; omega) ?_)
            intro v' w5 hO hg _
            obtain ⟨a', c', rfl⟩ := ownsRow_form hO
            have hB5 : Below (w0.heap.size + 1) w4 w5 := below_grown ((Below.refl (w0.heap.size + 1) w4).alloc HQ4.out.lt _) (by rw [World.size_alloc]; exact Nat.le_succ_of_le HQ4.out.lt) hg (fun q hq => (HQ4.out.texts.lt q hq).1)
            have e2 := (hB5.cell (p := ⟨w0.heap.size, 2, none⟩) (Nat.lt_succ_self _)).trans d2
            have f2 := (hB5.frozen (p := ⟨w0.heap.size, 2, none⟩) (Nat.lt_succ_self _)).trans g2
            have HP5 := Lib.hid (HQ4.out.putT (T := (qEnd q2).2.s.T ++ [(qEnd q2).1]) (by rw [tcells_append, List.length_append]; show w5.ownsRow _ _ _ _ _ (tcells (qEnd q2).2.s.T ++ [.string ⟨(qEnd q2).1.toArray⟩]); rw [← HTB.out]; exact hO) hg)
            have HTT := Lib.hid (qEnd_pot q2).2.1
            have HME5 := Lib.hid (qmeas_on HP5.out)
            clear hO hg hB5 d2 g2
            go_wp2_with fail
            go_roundw
            case measure =>
              rw [HME5.out, HME.out, if_neg hbad]
              have h1 := qEnd_pot q2
              have h2 := qEnd_bad q2
              have h3 := HS2.out
              show (if (qEnd q2).2.bad = true then 0 else (qEnd q2).2.s.S.length + 1) < _
              by_cases h0 : (0 : UInt8) ∈ q2.s.S
              · rw [if_pos h0] at h1
                split <;> omega
              · rw [if_neg h0] at h2
                rw [if_pos h2]; omega
            case rel =>
              refine ⟨m + 1, ⟨{ (qEnd q2).2.s with T := (qEnd q2).2.s.T ++ [(qEnd q2).1] }, (qEnd q2).2.bad⟩, by go_num, ⟨_, _, HP5.out⟩, ?_, ?_, ?_, ?_⟩
              · have h1 := qpot_text q2
                have h2 := qEnd_bad q2
                have h3 := HP2.out
                rw [← HTT.out] at h1
                show qpot { (qEnd q2).2.s with T := (qEnd q2).2.s.T ++ [(qEnd q2).1] } ≤ _ + (if (qEnd q2).2.bad = true then 1 else 0)
                by_cases h0 : (0 : UInt8) ∈ q2.s.S
                · rw [if_pos h0] at h1; omega
                · rw [if_neg h0] at h1 h2; rw [if_pos h2]; omega
              · show at' < (qEnd q2).2.s.N.length
                rw [(qEnd_pot q2).2.2]
                exact HN2.out
              · have h1 := qEnd_pot q2
                have h2 := qEnd_bad q2
                have h3 := HS2.out
                have h4 := HM.out
                rw [if_neg hbad] at h4
                show m + 1 + (qEnd q2).2.s.S.length ≤ _ + (if (qEnd q2).2.bad = true then 1 else 0)
                by_cases h0 : (0 : UInt8) ∈ q2.s.S
                · rw [if_pos h0] at h1; omega
                · rw [if_neg h0] at h1 h2; rw [if_pos h2]; omega
              · intro n s2 h1
                obtain ⟨h4, k', n', h5, h6⟩ := HT.out n s2 h1
                obtain ⟨k9, s9, p9, h7, h8, h9⟩ := rRow_next HSC.out HBZ.out h5
                obtain ⟨h10, h11⟩ := HSTEP.out s9 h7
                refine ⟨h11, k9, p9.1, ?_, ?_⟩
                · rw [show { (qEnd q2).2.s with T := (qEnd q2).2.s.T ++ [(qEnd q2).1] } = s9 from h10]
                  rw [show (p9.1, s2) = p9 from by cases h9; rfl]
                  exact h8
                · cases h9; omega
          | false =>
            go_wp2_with fail
            obtain ⟨q2, hq2⟩ : ∃ z : QS, z = q := ⟨_, rfl⟩
            have HP2 := Lib.hid (show qpot q2.s ≤ qpot s + 1 from by
              rw [hq2]
              have := HP.out
              rw [if_neg hbad] at this
              omega)
            have HS2 := Lib.hid (show q2.s.S.length ≤ q.s.S.length from by rw [hq2]; exact Nat.le_refl _)
            have HN2 := Lib.hid (show at' < q2.s.N.length from by rw [hq2]; exact HAL.out)
            have HSTEP := Lib.hid (show ∀ s9, qRow false q.s = some s9 → { (qEnd q2).2.s with T := (qEnd q2).2.s.T ++ [(qEnd q2).1] } = s9 ∧ (qEnd q2).2.bad = false from fun s9 h => by
              have e3 : q2 = ⟨q.s, false⟩ := by
                rw [hq2]
                cases q with | mk a b => cases b with | true => exact absurd rfl hbad | false => rfl
              have h2 : rText q.s = some s9 := h
              obtain ⟨e4, e5⟩ := qEnd_text (bad := false) h2
              rw [e3]
              exact ⟨by rw [e4, (qEnd_pot ⟨q.s, false⟩).2.1], e5⟩)
            have HI3 := Lib.hid (show IsQ w0 wr k q2 from by rw [hq2]; exact ⟨_, _, HQ.out⟩)
            clear hq2
            refine (qend_any w0 wr k q2 (by have := HP2.out; omega) HI3.out).mono ?_; rintro e w4 ⟨rfl, tv4, nv4, hQ4⟩
            have HQ4 := Lib.hid hQ4
            have HP3 := Lib.hid (show qpot (qEnd q2).2.s ≤ 900001 from by
              have h := qEnd_pot q2
              have h2 := HP2.out
              unfold qpot at h2 ⊢
              rw [h.2.1, h.2.2]
              unfold qpot at hr
              omega)
            clear hQ4
            have hQ4r := HQ4.out
            obtain ⟨ta, tcc, rfl⟩ := ownsRow_form hQ4r.texts
            have d2 := hQ4r.cell.2.2.1
            have g2 := hQ4r.frozen 2
            have hz4 := hQ4r.lt
            have hTl : (qEnd q2).2.s.T.length ≤ 1000000 := by have := HP3.out; unfold qpot at this; omega
            obtain ⟨tb, htb⟩ : ∃ z : ByteArray, z = ⟨(qEnd q2).1.toArray⟩ := ⟨_, rfl⟩
            rw [← htb]
            have HTB := Lib.hid htb
            clear hQ4r htb
            go_wp2_with (at_builtin; refine wpList_append_at _ rfl (.tmp 47) (.tmp 49) 22 rfl (w0.heap.size + 1) 9 i0 (.string { data := #[] }) 1 16 Tryz.underlying22 hi y0 y1 y2 rfl (by decide) (.slice ta (qEnd q2).2.s.T.length tcc) (qEnd q2).2.s.T.length (tcells (qEnd q2).2.s.T) rfl (HQ4.out.texts.alloc _) ⟨w4.heap.size, 0, none⟩ 1 1 [.string tb] rfl rfl (fun j u h => by rw [Go.WideShapes.add_plain, Nat.zero_add, ← h]; exact (World.cell?_alloc_new w4 _ _ j).trans (by simp)) (by intro u hu; simp at hu; rcases hu with rfl; rfl) (by unfold maxLen; omega) (by omega) (by rw [World.size_alloc]; omega) ?_)
            intro v' w5 hO hg _
            obtain ⟨a', c', rfl⟩ := ownsRow_form hO
            have hB5 : Below (w0.heap.size + 1) w4 w5 := below_grown ((Below.refl (w0.heap.size + 1) w4).alloc HQ4.out.lt _) (by rw [World.size_alloc]; exact Nat.le_succ_of_le HQ4.out.lt) hg (fun q hq => (HQ4.out.texts.lt q hq).1)
            have e2 := (hB5.cell (p := ⟨w0.heap.size, 2, none⟩) (Nat.lt_succ_self _)).trans d2
            have f2 := (hB5.frozen (p := ⟨w0.heap.size, 2, none⟩) (Nat.lt_succ_self _)).trans g2
            have HP5 := Lib.hid (HQ4.out.putT (T := (qEnd q2).2.s.T ++ [(qEnd q2).1]) (by rw [tcells_append, List.length_append]; show w5.ownsRow _ _ _ _ _ (tcells (qEnd q2).2.s.T ++ [.string ⟨(qEnd q2).1.toArray⟩]); rw [← HTB.out]; exact hO) hg)
            have HTT := Lib.hid (qEnd_pot q2).2.1
            have HME5 := Lib.hid (qmeas_on HP5.out)
            clear hO hg hB5 d2 g2
            go_wp2_with fail
            go_roundw
            case measure =>
              rw [HME5.out, HME.out, if_neg hbad]
              have h1 := qEnd_pot q2
              have h2 := qEnd_bad q2
              have h3 := HS2.out
              show (if (qEnd q2).2.bad = true then 0 else (qEnd q2).2.s.S.length + 1) < _
              by_cases h0 : (0 : UInt8) ∈ q2.s.S
              · rw [if_pos h0] at h1
                split <;> omega
              · rw [if_neg h0] at h2
                rw [if_pos h2]; omega
            case rel =>
              refine ⟨m + 1, ⟨{ (qEnd q2).2.s with T := (qEnd q2).2.s.T ++ [(qEnd q2).1] }, (qEnd q2).2.bad⟩, by go_num, ⟨_, _, HP5.out⟩, ?_, ?_, ?_, ?_⟩
              · have h1 := qpot_text q2
                have h2 := qEnd_bad q2
                have h3 := HP2.out
                rw [← HTT.out] at h1
                show qpot { (qEnd q2).2.s with T := (qEnd q2).2.s.T ++ [(qEnd q2).1] } ≤ _ + (if (qEnd q2).2.bad = true then 1 else 0)
                by_cases h0 : (0 : UInt8) ∈ q2.s.S
                · rw [if_pos h0] at h1; omega
                · rw [if_neg h0] at h1 h2; rw [if_pos h2]; omega
              · show at' < (qEnd q2).2.s.N.length
                rw [(qEnd_pot q2).2.2]
                exact HN2.out
              · have h1 := qEnd_pot q2
                have h2 := qEnd_bad q2
                have h3 := HS2.out
                have h4 := HM.out
                rw [if_neg hbad] at h4
                show m + 1 + (qEnd q2).2.s.S.length ≤ _ + (if (qEnd q2).2.bad = true then 1 else 0)
                by_cases h0 : (0 : UInt8) ∈ q2.s.S
                · rw [if_pos h0] at h1; omega
                · rw [if_neg h0] at h1 h2; rw [if_pos h2]; omega
              · intro n s2 h1
                obtain ⟨h4, k', n', h5, h6⟩ := HT.out n s2 h1
                obtain ⟨k9, s9, p9, h7, h8, h9⟩ := rRow_next HSC.out HBZ.out h5
                obtain ⟨h10, h11⟩ := HSTEP.out s9 h7
                refine ⟨h11, k9, p9.1, ?_, ?_⟩
                · rw [show { (qEnd q2).2.s with T := (qEnd q2).2.s.T ++ [(qEnd q2).1] } = s9 from h10]
                  rw [show (p9.1, s2) = p9 from by cases h9; rfl]
                  exact h8
                · cases h9; omega
end Go.Proofs.YtmofnkinclckoaaGreatDoor
