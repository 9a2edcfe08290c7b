/- However many may wait, whenever they join, however long they may wait: QueueWaits answers true, and leaves what was there as it was. -/
import Derived.Test.YtcklfdpmggoafaaLawServes
namespace Go.Proofs.Ytcklfdpmggoafaa
open Go.RowKit Go.Lib Go.WideShapes Go.ChangeShapes Go.ChangeAt Go.Joins

theorem qw_expire {w0 w : World} {p B : Nat} {most : Int} {L : Waits} {N : Nat} {v : Value} {xs : List Int} (h : QW w0 w p B most L N v xs) (now wait : Int) (hnow : 0 ≤ now ∧ now ≤ 1000000) (hw : 1 ≤ wait ∧ wait ≤ 9223372036854775807) :
    Calls Try.prog 18 #[.pointer (some ⟨p, 0, none⟩), .int .i64 now, .int .i64 wait] w fun e w' => ∃ u, e = .returned u ∧ HoldsI w' u ((L.filter (late now wait)).map (·.1)) ∧ QW w0 w' p B most (L.filter fun q => !late now wait q) N v xs := by
  obtain ⟨o, h1, h2, h3, h4, h5⟩ := h
  refine (expire_on p B o most L N now wait w h1 hnow hw).mono ?_
  rintro e w' ⟨u, o', rfl, hu, _, hQ, hK⟩
  obtain ⟨hb2, hf2⟩ := hK.below h2.size h3
  refine ⟨u, rfl, hu, o', hQ, h2.trans hb2, hf2, ?_, fun j hj hf => (hK.foot j hf).elim (h5 j hj) (fun hs => by have := (h4.lt j hj).2; omega)⟩
  refine ⟨h4.1, ?_⟩
  rcases h4.2 with hn | ⟨g, cap, cur, hv, hb, hg, rest⟩
  · exact .inl hn
  · have hvg : v.ownBlock = some g := by rw [hv]; rfl
    exact .inr ⟨g, cap, cur, hv, hb, (hK.block g (Array.getElem?_eq_some_iff.1 hg).1 (h5 g hvg)).trans hg, rest⟩

/-- The first, the second and so on, since the times of ts. -/
def inTurn (ts : List Int) : Waits := (List.range ts.length).map fun (j : Nat) => ((j : Int), ts.getD j 0)
theorem inTurn_length (ts : List Int) : (inTurn ts).length = ts.length := by simp [inTurn]
theorem inTurn_at (ts : List Int) (j : Nat) (h : j < ts.length) : (inTurn ts)[j]'(by rw [inTurn_length]; exact h) = ((j : Int), ts[j]) := by
  simp [inTurn, List.getD, List.getElem?_eq_getElem h]
theorem inTurn_snoc (ts : List Int) (t : Int) : inTurn (ts ++ [t]) = inTurn ts ++ [((ts.length : Int), t)] := by
  apply List.ext_getElem
  · rw [inTurn_length, List.length_append, List.length_append, inTurn_length]; rfl
  · intro i h1 h2
    rw [inTurn_length] at h1
    rw [inTurn_at _ _ h1]
    by_cases hi : i < ts.length
    · rw [List.getElem_append_left hi, List.getElem_append_left (by rw [inTurn_length]; exact hi), inTurn_at _ _ hi]
    · rw [List.length_append] at h1
      have : i = ts.length := by simp at h1; omega
      subst this
      rw [List.getElem_append_right (by first | (rw [inTurn_length]; exact Nat.le_refl _) | exact Nat.le_refl _)]
      simp [inTurn_length]
theorem inTurn_ids (ts : List Int) : (inTurn ts).map (·.1) = (List.range ts.length).map fun (j : Nat) => (j : Int) := by simp [inTurn]
theorem inTurn_look (ts : List Int) (i : Nat) (h : ts.length ≤ i) : look (inTurn ts) (i : Int) = none := by
  rw [look_none, inTurn_ids]
  intro hm
  obtain ⟨j, hj, e⟩ := List.mem_map.1 hm
  have := List.mem_range.1 hj
  omega

/-- A filter that holds at the first m alone. -/
theorem filter_first {α : Type} (f : α → Bool) : ∀ (L : List α) (m : Nat), (∀ i (h : i < L.length), f L[i] = decide (i < m)) → L.filter f = L.take m ∧ (L.filter fun x => !f x) = L.drop m
  | [], m, _ => by simp
  | x :: L, m, h => by
    have h0 := h 0 (by simp)
    simp only [List.getElem_cons_zero] at h0
    cases m with
    | zero =>
      obtain ⟨e1, e2⟩ := filter_first f L 0 (fun i hi => by have := h (i + 1) (by simpa using hi); simpa using this)
      simp at h0 e1 e2
      rw [List.filter_cons_of_neg (by simp [h0]), List.filter_cons_of_pos (by simp [h0])]
      refine ⟨?_, ?_⟩
      · simpa using e1
      · simp only [List.drop_zero]; congr 1; exact List.filter_eq_self.2 (fun a ha => by simpa using e1 a ha)
    | succ m =>
      obtain ⟨e1, e2⟩ := filter_first f L m (fun i hi => by have := h (i + 1) (by simpa using hi); simpa using this)
      simp at h0
      rw [List.filter_cons_of_pos (by simp [h0]), List.filter_cons_of_neg (by simp [h0]), e1, e2]
      exact ⟨rfl, rfl⟩

/-- Of times that rise those that are long ago are the first ones. -/
theorem first_ones {ts : List Int} (hs : ts.Pairwise (· ≤ ·)) (b : Int) : ∃ m, m ≤ ts.length ∧ ∀ i (h : i < ts.length), decide (ts[i] ≤ b) = decide (i < m) := by
  induction ts with
  | nil => exact ⟨0, Nat.le_refl _, fun i h => by simp at h⟩
  | cons t ts ih =>
    obtain ⟨m, hm, h⟩ := ih (List.pairwise_cons.1 hs).2
    by_cases ht : t ≤ b
    · refine ⟨m + 1, by simp; omega, fun i hi => ?_⟩
      cases i with
      | zero => simp [ht]
      | succ i => have := h i (by simpa using hi); simpa using this
    · refine ⟨0, Nat.zero_le _, fun i hi => ?_⟩
      cases i with
      | zero => simp [ht]
      | succ i =>
        have h1 := (List.pairwise_cons.1 hs).1 (ts[i]'(by simpa using hi)) (List.getElem_mem (by simpa using hi))
        simp; omega

set_option maxRecDepth 100000 in
set_option maxHeartbeats 8000000 in
theorem waits_walk (most wait : Int) (l0 : Option Addr) (len cap : Nat) (c : Nat → Int) (w : World) (hm : -9223372036854775808 ≤ most ∧ most ≤ 9223372036854775807) (hw : -9223372036854775808 ≤ wait ∧ wait ≤ 9223372036854775807) (hlen : len ≤ 60) (hC : len = 0 ∨ ∃ b off, l0 = some ⟨b, off, none⟩ ∧ b < w.heap.size ∧ IntsAt w b off len c) (hcr : ∀ i, i < len → -9223372036854775808 ≤ c i ∧ c i ≤ 9223372036854775807) :
    Calls Try.prog 5 #[.int .i64 most, .slice l0 len cap, .int .i64 wait] w fun e w' => e = .returned (.bool true) ∧ Below w.heap.size w w' := by
  obtain ⟨i0, hi, y0, y1, y2⟩ := info_parts Try.info3
  have HC := Lib.hid hC; have HCR := Lib.hid hcr
  clear hC hcr
  have hp1 := pk_lt most 30 (by omega)
  have HPK := Lib.hid (fun W => pick_any most 30 W (by omega) (by omega) hm)
  obtain ⟨x, hx⟩ : ∃ x, x = pk most 30 := ⟨_, rfl⟩
  rw [← hx] at hp1 HPK
  have hp3 := pk_lt wait 20 (by omega)
  have HPT := Lib.hid (fun W => pick_any wait 20 W (by omega) (by omega) hw)
  obtain ⟨y, hy⟩ : ∃ y, y = pk wait 20 := ⟨_, rfl⟩
  rw [← hy] at hp3 HPT
  clear hx hy
  go_enter Try.func5, Try.ntmps5
  go_wp2_with fail
  refine (shown_true _).mono ?_; rintro e w1 ⟨rfl, hb1⟩
  have hz1 := hb1.size
  have HB1 := Lib.hid hb1
  clear hb1
  go_wp2_with fail
  refine (HPK.out _).mono ?_; rintro e w' ⟨rfl, rfl⟩
  go_wp2_with fail
  obtain ⟨n, hn⟩ : ∃ n, n = x + 1 := ⟨_, rfl⟩
  have HN2 := Lib.hid (show (1 : Int) + (x : Int) = (n : Int) by omega)
  have hn1 : 1 ≤ n ∧ n ≤ 30 := by omega
  clear hn hp1
  obtain ⟨hn3, hn4⟩ := hn1
  rw [HN2.out]
  refine (qe_new n w1 (by omega)).mono ?_; rintro e w2 ⟨rfl, hq2⟩
  have HQ2 := Lib.hid hq2.qw
  clear hq2 HN2 HPK
  go_wp2_with fail
  go_loopw [11, 12, 13] (fun a v i wr => ∃ (k t : Nat) (ts : List Int), k ≤ len ∧ i = .int .i64 k ∧ a = .int .i64 t ∧ t ≤ 3 * k ∧ ts.length ≤ n ∧ ts.length ≤ k ∧ (ts.length = k ∨ ts.length = n) ∧ ts.Pairwise (· ≤ ·) ∧ (∀ x ∈ ts, 0 ≤ x ∧ x ≤ t) ∧ QW w1 wr (w1.heap.size + 1) w1.heap.size n (inTurn ts) k v ts) (fun _ _ i _ => len - (intOf i).toNat)
  case atStart => exact ⟨0, 0, [], Nat.zero_le _, rfl, rfl, Nat.le_refl _, Nat.zero_le _, Nat.le_refl _, .inl rfl, .nil, by simp, HQ2.out⟩
  case round =>
    obtain ⟨k, t, ts, hk, rfl, rfl, ht, htn, htk, hcase, hsort, hbd, hQ⟩ := hrel
    have HQ := Lib.hid hQ; have HSO := Lib.hid hsort; have HBD := Lib.hid hbd
    clear hQ HQ2 hsort hbd
    by_cases hlt : k < len
    · obtain ⟨b, off, hl0, hb, hCC⟩ : ∃ b off, l0 = some ⟨b, off, none⟩ ∧ b < w.heap.size ∧ IntsAt w b off len c := HC.out.elim (fun h => by omega) id
      subst hl0
      have hck := hCC k hlt
      have hcr := HCR.out k hlt
      have d0 : wr.cell? ⟨b, off + k, none⟩ = some (.int .i64 (c k)) := ((HB1.out.step HQ.out.qe.below hz1).cell (p := ⟨b, off + k, none⟩) hb).trans hck
      have hpp := pk_lt (c k) 4 (by omega)
      have HPC := Lib.hid (fun W => pick_any (c k) 4 W (by omega) (by omega) hcr)
      obtain ⟨s, hs⟩ : ∃ s, s = pk (c k) 4 := ⟨_, rfl⟩
      rw [← hs] at hpp HPC
      have HCS := Lib.hid hcase
      clear hCC hs hck hcr hcase
      have hlt' : (k : Int) < len := by omega
      go_wp2_with fail
      refine (HPC.out _).mono ?_; rintro e w' ⟨rfl, rfl⟩
      clear HPC d0
      by_cases hkn : k < n
      · have HTK := Lib.hid (show ts.length = k by have := HCS.out; omega)
        go_wp2_with fail
        refine (qw_of HQ.out fun o ho => join_ok _ _ o _ _ _ (k : Int) ((t : Int) + (s : Int)) _ ho (by omega) (by omega) (inTurn_look ts k (by have := HTK.out; omega)) (by rw [inTurn_length]; omega) (by omega)).mono ?_; rintro e w3 ⟨rfl, hQ3⟩
        have e3 : inTurn ts ++ [((k : Int), (t : Int) + (s : Int))] = inTurn (ts ++ [(t : Int) + (s : Int)]) := by rw [inTurn_snoc, HTK.out]
        rw [e3] at hQ3
        have HQ3 := Lib.hid hQ3
        have hz3 : w1.heap.size ≤ w3.heap.size := hQ3.qe.below.size
        have hrow := hQ3.row
        obtain ⟨va, vc, rfl⟩ := ownsRow_form hrow
        have HROW := Lib.hid hrow
        have hkn' : (k : Int) < n := by omega
        clear hQ3 HQ hrow e3
        go_wp2_with (at_builtin; refine wpList_append_at _ rfl (.tmp 76) (.tmp 78) 37 rfl w1.heap.size 3 i0 (.int .i64 0) 1 8 Try.underlying37 hi y0 y1 y2 rfl (by decide) (.slice va ts.length vc) ts.length (intCells ts) rfl (HROW.out.alloc _) ⟨w3.heap.size, 0, none⟩ 1 1 [.int .i64 ((t : Int) + (s : Int))] rfl rfl ?g1 ?g2 ?g3 ?g4 ?g5 ?_)
        case g1 => intro j u h; rw [add_plain, Nat.zero_add, ← h]; exact (World.cell?_alloc_new w3 _ _ j).trans (by simp)
        case g2 => intro u hu; simp at hu; rcases hu with rfl; rfl
        case g3 => unfold maxLen; omega
        case g4 => omega
        case g5 => simp; omega
        intro v' w4 hO4 hg4 hnew
        have HQ4 := Lib.hid (HQ3.out.put hO4 hg4 (fun k hk => (hnew k hk).imp_right (fun h => by rw [World.size_alloc]; exact h)))
        clear hO4 hg4 hnew HQ3 HROW
        go_wp2_with fail
        go_roundw
        case rel =>
          refine ⟨k + 1, t + s, ts ++ [(t : Int) + (s : Int)], by omega, by go_num, by go_num, by omega, by rw [List.length_append, HTK.out]; simp; omega, by rw [List.length_append, HTK.out]; simp, .inl (by rw [List.length_append, HTK.out]; rfl), ?_, ?_, HQ4.out⟩
          · refine List.pairwise_append.2 ⟨HSO.out, by simp, fun a ha b hb => ?_⟩
            simp at hb; have := HBD.out a ha; omega
          · intro z hz
            rcases List.mem_append.1 hz with hz | hz
            · have := HBD.out z hz; omega
            · simp at hz; omega
        case measure => simp [intOf]; omega
      · have HTK := Lib.hid (show ts.length = n by have := HCS.out; omega)
        have hkn' : ¬ (k : Int) < n := by omega
        go_wp2_with fail
        refine (qw_of HQ.out fun o ho => join_full _ _ o _ _ _ (k : Int) ((t : Int) + (s : Int)) _ ho (by omega) (inTurn_look ts k (by omega)) (by rw [inTurn_length, HTK.out]; omega)).mono ?_; rintro e w3 ⟨rfl, hQ3⟩
        have HQ3 := Lib.hid hQ3
        clear hQ3 HQ
        go_wp2_with fail
        go_roundw
        case rel =>
          obtain ⟨o, h1, h2, h3, h4, h5⟩ := HQ3.out
          exact ⟨k + 1, t + s, ts, by omega, by go_num, by go_num, by omega, by omega, by omega, .inr HTK.out, HSO.out, fun z hz => by have := HBD.out z hz; omega, o, h1.more (by omega), h2, h3, h4, h5⟩
        case measure => simp [intOf]; omega
    · obtain rfl : k = len := by omega
      have hrow := HQ.out.row
      obtain ⟨va, vc, rfl⟩ := ownsRow_form hrow
      clear hrow hcase HC HCR
      obtain ⟨m, hml, hmm⟩ := first_ones HSO.out ((t : Int) - (1 + (y : Int)))
      have hfil := filter_first (late (t : Int) (1 + (y : Int))) (inTurn ts) m (fun i hi => by
        rw [inTurn_length] at hi
        rw [inTurn_at ts i hi, late, ← hmm i hi]
        congr 1; apply propext; constructor <;> intro h <;> simp only at h ⊢ <;> omega)
      have HFA := Lib.hid hfil.1; have HFB := Lib.hid hfil.2; have HMM := Lib.hid hmm
      clear hfil hmm
      go_wp2_with fail
      refine (HPT.out _).mono ?_; rintro e w' ⟨rfl, rfl⟩
      clear HPT
      go_wp2_with fail
      refine (qw_of HQ.out fun o ho => expire_off _ _ o _ _ _ (t : Int) 0 _ ho (by omega)).mono ?_; rintro e w3 ⟨rfl, hQ3⟩
      have HQ3 := Lib.hid hQ3
      clear hQ3 HQ
      go_wp2_with fail
      refine (qw_of HQ3.out fun o ho => expire_off _ _ o _ _ _ (t : Int) _ _ ho (by omega)).mono ?_; rintro e w4 ⟨rfl, hQ4⟩
      have HQ4 := Lib.hid hQ4
      clear hQ4 HQ3
      go_wp2_with fail
      refine (qw_expire HQ4.out (t : Int) (1 + (y : Int)) (by omega) (by omega)).mono ?_; rintro e w5 ⟨u, rfl, hU, hQ5⟩
      rw [HFA.out] at hU
      rw [HFB.out] at hQ5
      have hul : (((inTurn ts).take m).map (·.1)).length = m := by rw [List.length_map, List.length_take, inTurn_length]; omega
      obtain ⟨ua, uc, rfl⟩ := hU.form
      have HU := Lib.hid hU; have HQ5 := Lib.hid hQ5; have HUL := Lib.hid hul
      rw [HUL.out]
      clear hU hQ5 HQ4 hul
      go_wp2_with fail
      go_loop [17, 17] (fun i _ => ∃ j : Nat, j ≤ ts.length ∧ i = .int .i64 j) (fun i _ => ts.length - (intOf i).toNat)
      case atStart => exact ⟨0, Nat.zero_le _, rfl⟩
      case round =>
        obtain ⟨j, hj, rfl⟩ := hrel
        by_cases hjl : j < ts.length
        · obtain ⟨g, hva, hgz, hcells⟩ := own_cell HQ5.out.row (by omega)
          subst hva
          have d0 := hcells j hjl
          have hmj := HMM.out j hjl
          have hsb := HBD.out ts[j] (List.getElem_mem hjl)
          obtain ⟨s, hs⟩ : ∃ s, s = ts[j] := ⟨_, rfl⟩
          rw [← hs] at d0 hmj hsb
          obtain ⟨hs0, hst⟩ := hsb
          have hmj := decide_eq_decide.1 hmj
          clear hcells hs
          have hjl' : (j : Int) < ts.length := by omega
          by_cases hjm : j < m
          · have hsm := hmj.2 hjm
            obtain ⟨b, off, hua, hb, hc⟩ := HoldsI.open HU.out (by have := HUL.out; omega)
            subst hua
            have d1 := hc j (by have := HUL.out; omega)
            have e1 : (((inTurn ts).take m).map (·.1))[j]'(by have := HUL.out; omega) = (j : Int) := by rw [List.getElem_map, List.getElem_take, inTurn_at ts j hjl]
            rw [e1] at d1
            have hjm' : (j : Int) < m := by omega
            clear hmj hc e1
            go_wp2_with fail
            go_round
            case rel => exact ⟨j + 1, by omega, by go_num⟩
            case measure => simp [intOf]; omega
          · have hsm : ¬ s ≤ (t : Int) - (1 + (y : Int)) := fun h => hjm (hmj.1 h)
            have hjm' : ¬ (j : Int) < m := by omega
            clear hmj
            go_wp2_with fail
            go_round
            case rel => exact ⟨j + 1, by omega, by go_num⟩
            case measure => simp [intOf]; omega
        · obtain rfl : j = ts.length := by omega
          clear hjl hj
          go_wp2_with fail
          refine (qe_list HQ5.out.qe).mono ?_; rintro e w6 ⟨v6, rfl, hV, hQ6, _⟩
          have hvl : (((inTurn ts).drop m).map (·.1)).length = ts.length - m := by rw [List.length_map, List.length_drop, inTurn_length]
          obtain ⟨xa, xc, rfl⟩ := hV.form
          rw [hvl]
          have HB6 := Lib.hid (HB1.out.step hQ6.below hz1)
          clear hV hQ6 HQ5 hvl
          go_wp2_with fail
          go_ret
          exact ⟨rfl, HB6.out⟩

theorem waits_early (most wait : Int) (l0 : Option Addr) (len cap : Nat) (w : World) (hm : -9223372036854775808 ≤ most ∧ most ≤ 9223372036854775807) (hlen : (60 : Int) < len) :
    Calls Try.prog 5 #[.int .i64 most, .slice l0 len cap, .int .i64 wait] w fun e w' => e = .returned (.bool true) ∧ Below w.heap.size w w' := by
  have hp1 := pk_lt most 30 (by omega)
  have HPK := Lib.hid (fun W => pick_any most 30 W (by omega) (by omega) hm)
  obtain ⟨x, hx⟩ : ∃ x, x = pk most 30 := ⟨_, rfl⟩
  rw [← hx] at hp1 HPK
  clear hx
  go_enter Try.func5, Try.ntmps5
  go_wp2_with fail
  refine (shown_true _).mono ?_; rintro e w1 ⟨rfl, hb1⟩
  have hz1 := hb1.size
  have HB1 := Lib.hid hb1
  clear hb1
  go_wp2_with fail
  refine (HPK.out _).mono ?_; rintro e w' ⟨rfl, rfl⟩
  go_wp2_with fail
  obtain ⟨n, hn⟩ : ∃ n, n = x + 1 := ⟨_, rfl⟩
  have HN2 := Lib.hid (show (1 : Int) + (x : Int) = (n : Int) by omega)
  have hn1 : 1 ≤ n ∧ n ≤ 30 := by omega
  clear hn hp1
  rw [HN2.out]
  refine (qe_new n w1 (by omega)).mono ?_; rintro e w2 ⟨rfl, hq2⟩
  have HB2 := Lib.hid (HB1.out.step hq2.below hz1)
  clear hq2 HN2 HPK
  go_wp2_with fail
  go_ret
  exact ⟨rfl, HB2.out⟩

theorem waits_ok (most wait : Int) (l0 : Option Addr) (len cap : Nat) (c : Nat → Int) (w : World) (hm : -9223372036854775808 ≤ most ∧ most ≤ 9223372036854775807) (hw : -9223372036854775808 ≤ wait ∧ wait ≤ 9223372036854775807) (hC : len = 0 ∨ ∃ b off, l0 = some ⟨b, off, none⟩ ∧ b < w.heap.size ∧ IntsAt w b off len c) (hcr : ∀ i, i < len → -9223372036854775808 ≤ c i ∧ c i ≤ 9223372036854775807) :
    Calls Try.prog 5 #[.int .i64 most, .slice l0 len cap, .int .i64 wait] w fun e w' => e = .returned (.bool true) ∧ Below w.heap.size w w' := by
  by_cases h : len ≤ 60
  · exact waits_walk most wait l0 len cap c w hm hw h hC hcr
  · exact waits_early most wait l0 len cap w hm (by omega)

set_option maxRecDepth 100000 in
theorem waits_lifted (os : Os) (started : os.Started) (H : Type) (enc : TypeId × Value → H) :
    ReturnsInHanded {} Try.checked os 5 .any (Rows.queueWaitsSpec.pre6 enc Try.prog Try.f5 Rows.queueWaitsRow.domain false) (Rows.queueWaitsSpec.post enc Try.prog Try.f5 false true false false) := by
  refine returnsInHanded_of_change (C := Try.checked) own started (by kernel_rfl) Try.func5
    (ChangeSpec.witness6 (enc := enc) (C := Try.checked) false ⟨#[], #[.int .i64 0, .slice none 0 0, .int .i64 0], []⟩ 8 (by kernel_rfl) (by kernel_rfl) (by kernel_rfl) (by kernel_rfl)) ?_
  intro W base args ds gs before hval0 hW _ _
  have hval : ∀ (j : Nat) t v, Try.f5.params[j]? = some t → args[j]? = some v → Value.okWide Try.prog W .any base t v := hval0
  have hW' := hW
  obtain ⟨p, q, hA0, hV, rfl, _, _⟩ := hW
  have hA : DataW.TrodAll enc Try.prog W 0 (fun _ => true) true Try.f5.params.toList args.toList ds p := hA0
  rw [Try.params5] at hA hval
  obtain ⟨v0, v1, v2, d0, d1, d2, p0, p1, p2, rfl, rfl, rfl, h0, h1, h2⟩ := trodAll_three hA
  obtain ⟨rfl, rfl⟩ := trodVars_none hV
  obtain ⟨most, rfl, rfl, rfl, wf_most⟩ := open_int Try.underlying3 (hval 0 3 v0 rfl rfl) h0
  have h_most := int_range wf_most
  obtain ⟨a0, len, cap, rfl⟩ := okWide_slice Try.underlying37 (hval 1 37 v1 rfl rfl)
  obtain ⟨c, hcr, hC⟩ := open_row h1
  obtain ⟨wait, rfl, rfl, rfl, wf_wait⟩ := open_int Try.underlying3 (hval 2 3 v2 rfl rfl) h2
  have h_wait := int_range wf_wait
  refine (waits_ok most wait a0 len cap c W h_most h_wait hC hcr).mono fun e W' ⟨he, hb⟩ => ?_
  subst he
  exact ⟨_, rfl, law_shut laidOut (by kernel_rfl) (by kernel_rfl) Try.underlying4 rfl hW' rfl hb⟩

theorem waits_holds : Rows.QueueWaitsSaid :=
  OpenClaim.holds_of_wide 5 Try.f5 rfl rfl rfl rfl rfl rfl rfl ⟨rfl, rfl, rfl, rfl, rfl⟩ rfl rfl rfl rfl rfl (by kernel_rfl) Try.func5 (by kernel_rfl)
    (of_decide_eq_true (by kernel_rfl)) (by unfold Func.isWrapper; rw [if_neg (of_decide_eq_false (by kernel_rfl))]; exact ⟨rfl, rfl⟩)
    (fun os started H enc _ => waits_lifted os started H enc)
end Go.Proofs.Ytcklfdpmggoafaa
