/- Contracts and mathematics: QI. -/
import Derived.Test.YtmofnkinclckoaaGreatDoorZ26
namespace Go.Proofs.YtmofnkinclckoaaGreatDoor
open Go.RowKit Go.Lib Go.WideShapes

def qKeepNum (n : Nat) (q : QS) : QS := ⟨rKeep (qNum n q).1 (qNum n q).2.s, (qNum n q).2.bad⟩
def qText (q : QS) : QS := ⟨{ (qEnd q).2.s with T := q.s.T ++ [(qEnd q).1] }, (qEnd q).2.bad⟩
def qName (q : QS) : QS := if (qText q).s.S.length < 18 then ⟨(qText q).s, true⟩ else ⟨{ (qText q).s with S := (qText q).s.S.drop 18 }, (qText q).bad⟩
/-- Behind a length: the value, if there is one. -/
def qRaw (n : Int) (q : QS) : QS := if (q.s.S.length : Int) < n then ⟨q.s, true⟩ else if 0 ≤ n then ⟨{ q.s with T := q.s.T ++ [q.s.S.take n.toNat], S := q.s.S.drop n.toNat }, q.bad⟩ else q
def qValue (q : QS) : QS := qRaw (qNum 4 q).1 (qKeepNum 4 q)
def qThing (c : UInt8) : QS → QS := if c = 99 then qKeepNum 2 else if c = 108 then qKeepNum 4 else if c = 109 then qName else qValue
def rThing (c : UInt8) : RS → Option RS := if c = 99 then rShort else if c = 108 then rLong else if c = 109 then rName else rValue

theorem QAt.drew {w0 w : World} {k : Int} {q : QS} {tv nv : Value} (h : QAt w0 w k q tv nv) : QAt w0 w.drew k q tv nv := ⟨h.below.drew, h.heap, h.texts.drew, h.nums.drew⟩
theorem qKeepNum_of {n : Nat} {s s1 : RS} (hn : n ≠ 1) (h : (rSigned n s).map (fun p => rKeep p.1 p.2) = some s1) : qKeepNum n ⟨s, false⟩ = ⟨s1, false⟩ := by
  cases hx : rSigned n s with
  | none => rw [hx] at h; cases h
  | some p =>
    rw [hx] at h
    obtain ⟨e1, e2⟩ := qNum_signed (bad := false) hn hx
    have h1 : rKeep p.1 p.2 = s1 := Option.some.inj h
    rw [e1] at h1
    unfold qKeepNum
    rw [← h1, e2]
theorem qText_of {s s1 : RS} (h : rText s = some s1) : qText ⟨s, false⟩ = ⟨s1, false⟩ := by
  obtain ⟨e1, e2⟩ := qEnd_text (bad := false) h
  unfold qText
  rw [← e1, e2]
theorem qName_of {s s1 : RS} (h : rName s = some s1) : qName ⟨s, false⟩ = ⟨s1, false⟩ := by
  unfold rName at h
  cases hx : rText s with
  | none => rw [hx] at h; cases h
  | some s2 =>
    rw [hx] at h
    have h1 : rTail s2 = some s1 := h
    unfold rTail rTake at h1
    by_cases hl : 18 ≤ s2.S.length
    · rw [if_pos hl] at h1
      have h2 : (if s2.S.take 18 = List.replicate 18 0 then some ({ s2 with S := s2.S.drop 18 } : RS) else none) = some s1 := h1
      split at h2
      · unfold qName
        rw [qText_of hx, if_neg (show ¬ s2.S.length < 18 by omega), ← Option.some.inj h2]
      · cases h2
    · rw [if_neg hl] at h1; cases h1
theorem qValue_of {s s1 : RS} (h : rValue s = some s1) : qValue ⟨s, false⟩ = ⟨s1, false⟩ := by
  unfold rValue at h
  cases hx : rSigned 4 s with
  | none => rw [hx] at h; cases h
  | some p =>
    rw [hx] at h
    obtain ⟨e1, e2⟩ := qNum_signed (bad := false) (by decide) hx
    have hk : qKeepNum 4 ⟨s, false⟩ = ⟨rKeep p.1 p.2, false⟩ := qKeepNum_of (by decide) (by rw [hx]; rfl)
    have hn : (qNum 4 ⟨s, false⟩).1 = p.1 := by rw [e1]
    unfold qValue qRaw
    rw [hk, hn]
    have h1 : (if -1 ≤ p.1 ∧ p.1 ≤ 10000 then (if p.1 < 0 then some (rKeep p.1 p.2) else rRaw p.1 (rKeep p.1 p.2)) else none) = some s1 := h
    split at h1
    · split at h1
      · rename_i h0
        rw [if_neg (show ¬ (((rKeep p.1 p.2).S.length : Nat) : Int) < p.1 by omega), if_neg (show ¬ 0 ≤ p.1 by omega), Option.some.inj h1]
      · rename_i h0
        have h0' : 0 ≤ p.1 := by omega
        unfold rRaw rTake at h1
        by_cases hl : p.1.toNat ≤ (rKeep p.1 p.2).S.length
        · rw [if_pos hl] at h1
          rw [if_neg (show ¬ (((rKeep p.1 p.2).S.length : Nat) : Int) < p.1 by omega), if_pos h0', ← Option.some.inj h1]
        · rw [if_neg hl] at h1; cases h1
    · cases h1
theorem qThing_of {c : UInt8} {s s1 : RS} (h : rThing c s = some s1) : qThing c ⟨s, false⟩ = ⟨s1, false⟩ := by
  unfold rThing at h
  unfold qThing
  split at h
  · rename_i h1; rw [if_pos h1]; exact qKeepNum_of (by decide) h
  · rename_i h1; rw [if_neg h1]
    split at h
    · rename_i h2; rw [if_pos h2]; exact qKeepNum_of (by decide) h
    · rename_i h2; rw [if_neg h2]
      split at h
      · rename_i h3; rw [if_pos h3]; exact qName_of h
      · rename_i h3; rw [if_neg h3]; exact qValue_of h
theorem qNum_bad (n : Nat) (q : QS) : (qNum n q).2.bad = if q.s.S.length < n then true else q.bad := by
  unfold qNum
  by_cases h : q.s.S.length < n
  · rw [if_pos h, if_pos h]
  · rw [if_neg h, if_neg h]
theorem qKeepNum_pot {n : Nat} (hn : 1 ≤ n) (q : QS) : qpot (qKeepNum n q).s ≤ qpot q.s + (if (qKeepNum n q).bad then 1 else 0) := by
  have h1 := qpot_num n q
  show qpot (rKeep _ _) ≤ _ + (if (qNum n q).2.bad = true then 1 else 0)
  rw [qpot_keep, qNum_bad]
  by_cases h : q.s.S.length < n
  · rw [if_pos h] at h1 ⊢
    rw [if_pos rfl]; omega
  · rw [if_neg h] at h1 ⊢
    omega
theorem qText_pot (q : QS) : qpot (qText q).s ≤ qpot q.s + (if (qText q).bad then 1 else 0) := by
  have h1 := qpot_text q
  have h2 := qEnd_bad q
  show qpot { (qEnd q).2.s with T := q.s.T ++ [(qEnd q).1] } ≤ _ + (if (qEnd q).2.bad = true then 1 else 0)
  by_cases h0 : (0 : UInt8) ∈ q.s.S
  · rw [if_pos h0] at h1; omega
  · rw [if_neg h0] at h1 h2; rw [if_pos h2]; omega
theorem qpot_drop (s : RS) (n : Nat) : qpot { s with S := s.S.drop n } ≤ qpot s := by
  show (s.S.drop n).length + (s.T.map List.length).sum + s.T.length + s.N.length ≤ s.S.length + (s.T.map List.length).sum + s.T.length + s.N.length
  rw [List.length_drop]; omega
theorem qName_pot (q : QS) : qpot (qName q).s ≤ qpot q.s + (if (qName q).bad then 1 else 0) := by
  have h1 := qText_pot q
  unfold qName
  by_cases h : (qText q).s.S.length < 18
  · rw [if_pos h]
    show qpot (qText q).s ≤ _ + (if true = true then 1 else 0)
    rw [if_pos rfl]
    split at h1 <;> omega
  · rw [if_neg h]
    exact Nat.le_trans (qpot_drop (qText q).s 18) h1
theorem qValue_pot (q : QS) : qpot (qValue q).s ≤ qpot q.s + (if (qValue q).bad then 2 else 0) := by
  have h1 := qpot_num 4 q
  have hb := qNum_bad 4 q
  have hk : qpot (qKeepNum 4 q).s = qpot (qNum 4 q).2.s + 1 := qpot_keep _ _
  have hkb : (qKeepNum 4 q).bad = (qNum 4 q).2.bad := rfl
  unfold qValue qRaw
  by_cases h : ((qKeepNum 4 q).s.S.length : Int) < (qNum 4 q).1
  · rw [if_pos h]
    show qpot (qKeepNum 4 q).s ≤ _ + (if true = true then 2 else 0)
    rw [if_pos rfl]; omega
  · rw [if_neg h]
    by_cases h0 : 0 ≤ (qNum 4 q).1
    · rw [if_pos h0]
      have hp : qpot { (qKeepNum 4 q).s with T := (qKeepNum 4 q).s.T ++ [(qKeepNum 4 q).s.S.take (qNum 4 q).1.toNat], S := (qKeepNum 4 q).s.S.drop (qNum 4 q).1.toNat } = qpot (qKeepNum 4 q).s + 1 := by
        show ((qKeepNum 4 q).s.S.drop _).length + (((qKeepNum 4 q).s.T ++ [(qKeepNum 4 q).s.S.take (qNum 4 q).1.toNat]).map List.length).sum + ((qKeepNum 4 q).s.T ++ [(qKeepNum 4 q).s.S.take (qNum 4 q).1.toNat]).length + (qKeepNum 4 q).s.N.length = _
        rw [List.map_append, List.sum_append, List.length_append, List.length_drop]
        simp only [List.map_cons, List.map_nil, List.sum_cons, List.sum_nil, List.length_cons, List.length_nil, List.length_take]
        unfold qpot
        omega
      show qpot { (qKeepNum 4 q).s with T := (qKeepNum 4 q).s.T ++ [(qKeepNum 4 q).s.S.take (qNum 4 q).1.toNat], S := (qKeepNum 4 q).s.S.drop (qNum 4 q).1.toNat } ≤ _ + (if (qKeepNum 4 q).bad = true then 2 else 0)
      rw [hp, hk, hkb, hb]
      by_cases hl : q.s.S.length < 4
      · rw [if_pos hl] at h1 ⊢; rw [if_pos rfl]; omega
      · rw [if_neg hl] at h1 ⊢; omega
    · rw [if_neg h0]
      show qpot (qKeepNum 4 q).s ≤ _ + (if (qKeepNum 4 q).bad = true then 2 else 0)
      rw [hk, hkb, hb]
      by_cases hl : q.s.S.length < 4
      · rw [if_pos hl] at h1 ⊢; rw [if_pos rfl]; omega
      · rw [if_neg hl] at h1 ⊢; omega
theorem qThing_pot (c : UInt8) (q : QS) : qpot (qThing c q).s ≤ qpot q.s + (if (qThing c q).bad then 2 else 0) := by
  unfold qThing
  split
  · have := qKeepNum_pot (n := 2) (by decide) q; split at this <;> rename_i h <;> simp only [h] at this ⊢ <;> simp at this ⊢ <;> omega
  · split
    · have := qKeepNum_pot (n := 4) (by decide) q; split at this <;> rename_i h <;> simp only [h] at this ⊢ <;> simp at this ⊢ <;> omega
    · split
      · have := qName_pot q; split at this <;> rename_i h <;> simp only [h] at this ⊢ <;> simp at this ⊢ <;> omega
      · exact qValue_pot q
theorem qVal_range {k : Nat} (hk : k = 1 ∨ k = 2 ∨ k = 4) (b : Bs) (hb : b.length = k) : -4294967296 ≤ qVal k b ∧ qVal k b ≤ 4294967296 := by
  have h1 := unsig_lt b
  rw [hb] at h1
  have h2 : 256 ^ k ≤ 4294967296 := by rcases hk with rfl | rfl | rfl <;> decide
  unfold qVal sgnM
  split
  · omega
  · split <;> omega
theorem qNum_range {k : Nat} (hk : k = 1 ∨ k = 2 ∨ k = 4) (q : QS) : -4294967296 ≤ (qNum k q).1 ∧ (qNum k q).1 ≤ 4294967296 := by
  unfold qNum
  by_cases h : q.s.S.length < k
  · rw [if_pos h]; show -4294967296 ≤ (0 : Int) ∧ (0 : Int) ≤ 4294967296; decide
  · rw [if_neg h]
    exact qVal_range hk _ (by rw [List.length_take, Nat.min_eq_left (by omega)])
set_option maxRecDepth 100000 in
set_option maxHeartbeats 8000000 in
theorem qfield_s (w0 w : World) (k : Int) (q : QS) (hr : qpot q.s ≤ 900010) (h : IsQ w0 w k q) :
    Calls Tryz.prog 40 #[.pointer (some ⟨w0.heap.size, 0, none⟩), .int .u8 115] w fun e w' => e = .returned (.tuple #[]) ∧ IsQ w0 w' k (qText q) := by
  obtain ⟨i0, hi, y0, y1, y2⟩ := info_parts infoQ_string
  go_enter Tryz.func40, Tryz.ntmps40
  have HI := Lib.hid h
  clear h
  go_wp2_with fail
  refine (qend_any w0 w k q (by omega) HI.out).mono ?_; rintro e w4 ⟨rfl, tv4, nv4, hQ4⟩
  have HQ4 := Lib.hid hQ4
  have HP3 := Lib.hid (show qpot (qEnd q).2.s ≤ 900010 from by
    have h := qEnd_pot q
    have h2 := hr
    unfold qpot at h2 ⊢
    rw [h.2.1, h.2.2]
    omega)
  clear hQ4
  have hQr := HQ4.out
  obtain ⟨ta, tcc, rfl⟩ := ownsRow_form hQr.texts
  have d2 := hQr.cell.2.2.1
  have g2 := hQr.frozen 2
  have hz4 := hQr.lt
  have hTl : (qEnd q).2.s.T.length ≤ 1000000 := by have := HP3.out; unfold qpot at this; omega
  obtain ⟨tb, htb⟩ : ∃ z : ByteArray, z = ⟨(qEnd q).1.toArray⟩ := ⟨_, rfl⟩
  rw [← htb]
  have HTB := Lib.hid htb
  clear hQr htb
  go_wp2_with (at_builtin; refine wpList_append_at _ rfl (.tmp 37) (.tmp 39) 22 rfl (w0.heap.size + 1) 9 i0 (.string { data := #[] }) 1 16 Tryz.underlying22 hi y0 y1 y2 rfl (by decide) (.slice ta (qEnd q).2.s.T.length tcc) (qEnd q).2.s.T.length (tcells (qEnd q).2.s.T) rfl (HQ4.out.texts.alloc _) ⟨w4.heap.size, 0, none⟩ 1 1 [.string tb] rfl rfl (fun j u h => by rw [Go.WideShapes.add_plain, Nat.zero_add, ← h]; exact (World.cell?_alloc_new w4 _ _ j).trans (by simp)) (by intro u hu; simp at hu; rcases hu with rfl; rfl) (by unfold maxLen; omega) (by omega) (by rw [World.size_alloc]; omega) ?_)
  intro v' w5 hO hg _
  obtain ⟨a', c', rfl⟩ := ownsRow_form hO
  have hB5 : Below (w0.heap.size + 1) w4 w5 := below_grown ((Below.refl (w0.heap.size + 1) w4).alloc HQ4.out.lt _) (by rw [World.size_alloc]; exact Nat.le_succ_of_le HQ4.out.lt) hg (fun q hq => (HQ4.out.texts.lt q hq).1)
  have e2 := (hB5.cell (p := ⟨w0.heap.size, 2, none⟩) (Nat.lt_succ_self _)).trans d2
  have f2 := (hB5.frozen (p := ⟨w0.heap.size, 2, none⟩) (Nat.lt_succ_self _)).trans g2
  have HP5 := Lib.hid (HQ4.out.putT (T := (qEnd q).2.s.T ++ [(qEnd q).1]) (by rw [tcells_append, List.length_append]; show w5.ownsRow _ _ _ _ _ (tcells (qEnd q).2.s.T ++ [.string ⟨(qEnd q).1.toArray⟩]); rw [← HTB.out]; exact hO) hg)
  clear hO hg hB5 d2 g2
  go_wp2_with fail
  go_end0
  refine ⟨rfl, ?_⟩
  unfold qText
  rw [← (qEnd_pot q).2.1]
  exact ⟨_, _, HP5.out⟩
set_option maxRecDepth 100000 in
set_option maxHeartbeats 8000000 in
theorem qitem_c (w0 w : World) (k : Int) (q : QS) (hr : qpot q.s ≤ 900010) (h : IsQ w0 w k q) :
    Calls Tryz.prog 63 #[.pointer (some ⟨w0.heap.size, 0, none⟩), .int .u8 99] w fun e w' => e = .returned (.tuple #[]) ∧ IsQ w0 w' k (qKeepNum 2 q) := by
  go_enter Tryz.func63, Tryz.ntmps63
  have HI := Lib.hid h
  clear h
  go_wp2_with fail
  refine (qnum_any w0 w k q 2 (by decide) (by omega) HI.out).mono ?_; rintro e w2 ⟨rfl, hI2⟩
  have hqp := qpot_num 2 q
  have HI2 := Lib.hid hI2
  have hq3 : qpot (qNum 2 q).2.s ≤ 900010 := by omega
  clear hI2 hqp
  go_wp2_with fail
  refine (qkeep_any w0 w2 k (qNum 2 q).2 (qNum 2 q).1 (by omega) HI2.out).mono ?_; rintro e w3 ⟨rfl, hI3⟩
  have HI3 := Lib.hid hI3
  clear hI3
  go_wp2_with fail
  go_end0
  exact ⟨rfl, HI3.out⟩
set_option maxRecDepth 100000 in
set_option maxHeartbeats 8000000 in
theorem qitem_l (w0 w : World) (k : Int) (q : QS) (hr : qpot q.s ≤ 900010) (h : IsQ w0 w k q) :
    Calls Tryz.prog 63 #[.pointer (some ⟨w0.heap.size, 0, none⟩), .int .u8 108] w fun e w' => e = .returned (.tuple #[]) ∧ IsQ w0 w' k (qKeepNum 4 q) := by
  go_enter Tryz.func63, Tryz.ntmps63
  have HI := Lib.hid h
  clear h
  go_wp2_with fail
  refine (qnum_any w0 w k q 4 (by decide) (by omega) HI.out).mono ?_; rintro e w2 ⟨rfl, hI2⟩
  have hqp := qpot_num 4 q
  have HI2 := Lib.hid hI2
  have hq3 : qpot (qNum 4 q).2.s ≤ 900010 := by omega
  clear hI2 hqp
  go_wp2_with fail
  refine (qkeep_any w0 w2 k (qNum 4 q).2 (qNum 4 q).1 (by omega) HI2.out).mono ?_; rintro e w3 ⟨rfl, hI3⟩
  have HI3 := Lib.hid hI3
  clear hI3
  go_wp2_with fail
  go_end0
  exact ⟨rfl, HI3.out⟩
set_option maxRecDepth 100000 in
set_option maxHeartbeats 8000000 in
theorem qitem_m (w0 w : World) (k : Int) (q : QS) (hr : qpot q.s ≤ 900010) (h : IsQ w0 w k q) :
    Calls Tryz.prog 63 #[.pointer (some ⟨w0.heap.size, 0, none⟩), .int .u8 109] w fun e w' => e = .returned (.tuple #[]) ∧ IsQ w0 w' k (qName q) := by
  go_enter Tryz.func63, Tryz.ntmps63
  have HI := Lib.hid h
  clear h
  go_wp2_with fail
  refine (qfield_s w0 w k q hr HI.out).mono ?_; rintro e w3 ⟨rfl, hI3⟩
  have hqp := qText_pot q
  have hq3 : qpot (qText q).s ≤ 900012 := by split at hqp <;> omega
  obtain ⟨q2, hq2⟩ : ∃ z, z = qText q := ⟨_, rfl⟩
  have HQ2 := Lib.hid (show qName q = if q2.s.S.length < 18 then ⟨q2.s, true⟩ else ⟨{ q2.s with S := q2.s.S.drop 18 }, q2.bad⟩ from by rw [hq2]; rfl)
  rw [← hq2] at hI3 hq3
  clear hqp hq2
  obtain ⟨tv, nv, hQ⟩ := hI3
  obtain ⟨c0, c1, c2, c3, c4⟩ := hQ.cell
  have f0 := hQ.frozen 0
  have f4 := hQ.frozen 4
  have hl : q2.s.S.length ≤ 1000000 := by unfold qpot at hq3; omega
  obtain ⟨sb, hsb⟩ : ∃ z : ByteArray, z = ⟨q2.s.S.toArray⟩ := ⟨_, rfl⟩
  have hsz : sb.size = q2.s.S.length := by rw [hsb, bsize]
  rw [← hsb] at c0
  have hs1 : sb.size ≤ 1000000 := by omega
  have HQ := Lib.hid hQ; have HSB := Lib.hid hsb; have HSZ := Lib.hid hsz
  clear hQ c1 c2 c3 hsb hsz hl hq3
  by_cases h18 : sb.size < 18
  · have h1 : decide ((sb.size : Int) < 18) = true := decide_eq_true (by omega)
    have HE := Lib.hid (show qName q = ⟨q2.s, true⟩ from by rw [HQ2.out, if_pos (by rw [← HSZ.out]; exact h18)])
    have HP := Lib.hid HQ.out.putBad
    go_wp2_with fail
    refine bodyPost_ret (results_none rfl _ _ _) rfl ?_
    rw [HE.out]
    exact ⟨rfl, _, _, HP.out⟩
  · have h1 : decide ((sb.size : Int) < 18) = false := decide_eq_false (by omega)
    have hge : (18 : Int) ≤ sb.size := by omega
    have HE := Lib.hid (show qName q = ⟨{ q2.s with S := q2.s.S.drop 18 }, q2.bad⟩ from by rw [HQ2.out, if_neg (by rw [← HSZ.out]; exact h18)])
    have HP := Lib.hid (HQ.out.putS (q2.s.S.drop 18))
    rw [← drop_list, ← HSB.out] at HP
    clear h18
    go_wp2_with fail
    go_end0
    rw [HE.out]
    exact ⟨rfl, _, _, HP.out⟩
set_option maxRecDepth 100000 in
set_option maxHeartbeats 8000000 in
theorem qitem_v (w0 w : World) (k : Int) (q : QS) (hr : qpot q.s ≤ 900010) (h : IsQ w0 w k q) :
    Calls Tryz.prog 63 #[.pointer (some ⟨w0.heap.size, 0, none⟩), .int .u8 118] w fun e w' => e = .returned (.tuple #[]) ∧ IsQ w0 w' k (qValue q) := by
  obtain ⟨i0, hi, y0, y1, y2⟩ := info_parts infoQ_string
  go_enter Tryz.func63, Tryz.ntmps63
  have HI := Lib.hid h
  clear h
  go_wp2_with fail
  refine (qnum_any w0 w k q 4 (by decide) (by omega) HI.out).mono ?_; rintro e w2 ⟨rfl, hI2⟩
  have hqp := qpot_num 4 q
  have HI2 := Lib.hid hI2
  have hq3 : qpot (qNum 4 q).2.s ≤ 900010 := by omega
  clear hI2 hqp
  have hnr := qNum_range (k := 4) (by decide) q
  go_wp2_with fail
  refine (qkeep_any w0 w2 k (qNum 4 q).2 (qNum 4 q).1 (by omega) HI2.out).mono ?_; rintro e w4 ⟨rfl, hI3⟩
  obtain ⟨q2, hq2⟩ : ∃ z : QS, z = qKeepNum 4 q := ⟨_, rfl⟩
  have hp2 : qpot q2.s ≤ 900011 := by rw [hq2]; have : qpot (qKeepNum 4 q).s = qpot (qNum 4 q).2.s + 1 := qpot_keep _ _; omega
  obtain ⟨n, hn⟩ : ∃ z : Int, z = (qNum 4 q).1 := ⟨_, rfl⟩
  have HV := Lib.hid (show qValue q = qRaw n q2 from by rw [hq2, hn]; rfl)
  have hI3' : IsQ w0 w4 k q2 := by rw [hq2]; exact hI3
  rw [← hn] at hnr ⊢
  clear hI3 hq2 hn hq3 HI2
  obtain ⟨tv, nv, hQ⟩ := hI3'
  obtain ⟨ta, tcc, rfl⟩ := ownsRow_form hQ.texts
  obtain ⟨c0, c1, d2, c3, c4⟩ := hQ.cell
  have f0 := hQ.frozen 0
  have g2 := hQ.frozen 2
  have f4 := hQ.frozen 4
  have hz4 := hQ.lt
  have hl : q2.s.S.length ≤ 1000000 := by unfold qpot at hp2; omega
  have hTl : q2.s.T.length ≤ 1000000 := by unfold qpot at hp2; omega
  obtain ⟨sb, hsb⟩ : ∃ z : ByteArray, z = ⟨q2.s.S.toArray⟩ := ⟨_, rfl⟩
  have hsz : sb.size = q2.s.S.length := by rw [hsb, bsize]
  rw [← hsb] at c0
  have hs1 : sb.size ≤ 1000000 := by omega
  have HQ := Lib.hid hQ; have HSB := Lib.hid hsb; have HSZ := Lib.hid hsz
  clear hQ c1 c3 hsb hsz hl hp2
  by_cases hgt : (sb.size : Int) < n
  · have HE := Lib.hid (show qValue q = ⟨q2.s, true⟩ from by rw [HV.out]; unfold qRaw; rw [if_pos (by rw [← HSZ.out]; exact hgt)])
    have HP := Lib.hid HQ.out.putBad
    clear d2 g2
    go_wp2_with fail
    refine bodyPost_ret (results_none rfl _ _ _) rfl ?_
    rw [HE.out]
    exact ⟨rfl, _, _, HP.out⟩
  · have hgt' : n ≤ sb.size := by omega
    by_cases h0 : 0 ≤ n
    · obtain ⟨m, rfl⟩ := Int.eq_ofNat_of_zero_le h0
      have hms : m ≤ sb.size := by omega
      have HE := Lib.hid (show qValue q = ⟨{ q2.s with T := q2.s.T ++ [q2.s.S.take m], S := q2.s.S.drop m }, q2.bad⟩ from by
        rw [HV.out]; unfold qRaw; rw [if_neg (by rw [← HSZ.out]; exact hgt), if_pos h0]; rfl)
      have HTT := Lib.hid (take_list q2.s.S m)
      rw [← HSB.out] at HTT
      have HDD := Lib.hid (drop_list q2.s.S m)
      rw [← HSB.out] at HDD
      obtain ⟨TL, hTL⟩ : ∃ TL : Nat, TL = q2.s.T.length := ⟨_, rfl⟩
      have HTL := Lib.hid hTL
      rw [← hTL] at HQ d2 hTl
      clear hgt hTL c4 f4
      go_upto_region 6 with (fail)
      go_region_law (refine step_append_own rfl (.tmp 28) (.tmp 35) 22 rfl (w0.heap.size + 1) 9 i0 (.string { data := #[] }) 1 16 Tryz.underlying22 hi y0 y1 y2 rfl (by decide) (.slice ta TL tcc) TL (tcells q2.s.T) (by simp [Act.eval]) (by have := (HQ.out.drew.texts).alloc (.cells #[.string (sb.extract 0 m)] 9); rw [← HTL.out] at this; exact this) ⟨w4.heap.size, 0, none⟩ 1 1 [.string (sb.extract 0 m)] (by simp [Act.eval]) rfl ?c1 ?c2 ?c3 ?c4 ?c5 ?_; (case c1 => (intro j u h; rw [Go.WideShapes.add_plain, Nat.zero_add, ← h]; exact (World.cell?_alloc_new w4.drew _ _ j).trans (by simp))); (case c2 => (intro u hu; simp at hu; rcases hu with rfl; rfl)); (case c3 => (unfold maxLen; omega)); (case c4 => omega); (case c5 => (first | omega | (simp; omega))); intro v' w5 hO5 hg5; obtain ⟨a', c', rfl⟩ := ownsRow_form hO5; have hB5 : Below (w0.heap.size + 1) w4.drew w5 := below_grown ((Below.refl (w0.heap.size + 1) w4.drew).alloc HQ.out.drew.lt _) (by rw [World.size_alloc]; exact Nat.le_succ_of_le HQ.out.drew.lt) hg5 (fun q hq => (HQ.out.drew.texts.lt q hq).1); have e2 := (hB5.cell (p := ⟨w0.heap.size, 2, none⟩) (Nat.lt_succ_self _)).trans HQ.out.drew.cell.2.2.1; have g5 := (hB5.frozen (p := ⟨w0.heap.size, 2, none⟩) (Nat.lt_succ_self _)).trans (HQ.out.drew.frozen 2); have HP5 := Lib.hid (HQ.out.drew.putT (T := q2.s.T ++ [q2.s.S.take m]) (by rw [tcells_append, List.length_append, ← HTL.out]; show w5.ownsRow _ _ _ _ _ (tcells q2.s.T ++ [.string ⟨(q2.s.S.take m).toArray⟩]); rw [← HTT.out]; exact hO5) hg5); clear hO5 hg5 hB5)
      all_goals
        clear c0 f0
        go_upto_region 7 with (fail)
        obtain ⟨w6, hw6⟩ : ∃ x, x = w5.setCell ⟨w0.heap.size, 2, none⟩ (.slice a' (TL + 1) c') := ⟨_, rfl⟩
        rw [← hw6] at HP5 ⊢
        clear hw6 d2 g2 e2 g5
        have d0 : w6.cell? ⟨w0.heap.size, 0, none⟩ = some (.string sb) := by rw [HSB.out]; exact HP5.out.cell.1
        have g0 := HP5.out.frozen 0
        have HP6 := Lib.hid (HP5.out.putS (q2.s.S.drop m))
        rw [← HDD.out] at HP6
        go_wp2_with fail
        go_end0
        rw [HE.out]
        exact ⟨rfl, _, _, HP6.out⟩
    · have hn0 : decide (0 ≤ n) = false := decide_eq_false h0
      have HE := Lib.hid (show qValue q = q2 from by rw [HV.out]; unfold qRaw; rw [if_neg (by rw [← HSZ.out]; exact hgt), if_neg h0])
      clear hgt
      go_wp2_with fail
      go_end0
      rw [HE.out]
      exact ⟨rfl, _, _, HQ.out⟩
end Go.Proofs.YtmofnkinclckoaaGreatDoor
