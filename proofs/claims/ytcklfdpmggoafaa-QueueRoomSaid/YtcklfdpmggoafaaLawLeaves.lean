/- However many join, whoever leaves: QueueLeaves answers true, and leaves what was there as it was. -/
import Derived.Test.YtcklfdpmggoafaaQE
namespace Go.Proofs.Ytcklfdpmggoafaa
open Go.RowKit Go.Lib Go.WideShapes Go.ChangeShapes Go.ChangeAt Go.Joins

/-- Those that joined, one behind the other, from a on. -/
def row (a : Int) (n : Nat) : Waits := (List.range n).map fun (j : Nat) => (a + (j : Int), (j : Int))

theorem row_length (a : Int) (n : Nat) : (row a n).length = n := by simp [row]
theorem row_succ (a : Int) (n : Nat) : row a (n + 1) = row a n ++ [(a + (n : Int), (n : Int))] := by simp [row, List.range_succ]
theorem row_ids (a : Int) (n : Nat) : (row a n).map (·.1) = (List.range n).map fun (j : Nat) => a + (j : Int) := by simp [row]

theorem row_look (a : Int) (n : Nat) (id : Int) (h : id < a ∨ a + n ≤ id) : look (row a n) id = none := by
  rw [look_none, row_ids]
  intro hm
  obtain ⟨j, hj, rfl⟩ := List.mem_map.1 hm
  have := List.mem_range.1 hj
  omega

theorem row_look_in (a : Int) (n c : Nat) (h : c < n) : (look (row a n) (a + c)).isSome = true := by
  cases hl : look (row a n) (a + c) with
  | some t => rfl
  | none =>
    rw [look_none, row_ids] at hl
    exact absurd (List.mem_map.2 ⟨c, List.mem_range.2 h, rfl⟩) hl

/-- One out of a row. -/
theorem row_out (a : Int) (n c : Nat) (h : c < n) : (row a n).filter (fun q => !decide (q.1 = a + (c : Int))) = (row a n).take c ++ (row a n).drop (c + 1) := by
  have hc : c < (row a n).length := by rw [row_length]; exact h
  have hn : ((row a n).map (·.1)).Nodup := by
    rw [row_ids]
    exact List.pairwise_map.2 (List.Pairwise.imp (fun h e => h (by omega)) List.nodup_range)
  have := filter_at hc hn
  rwa [show (row a n)[c].1 = a + (c : Int) by simp [row]] at this

theorem out_at (a : Int) (n c at_ : Nat) (k : Int) (h : c < n) (ha : at_ < n - 1) : (((row a n).take c ++ (row a n).drop (c + 1) ++ [(k, (n : Int))]).map (·.1))[at_]? = some (if at_ < c then a + (at_ : Int) else a + (at_ : Int) + 1) := by
  have h1 : ((row a n).take c).length = c := by rw [List.length_take, row_length]; omega
  have h2 : ((row a n).drop (c + 1)).length = n - (c + 1) := by rw [List.length_drop, row_length]
  rw [List.getElem?_map, List.getElem?_append_left (by rw [List.length_append, h1, h2]; omega)]
  by_cases hlt : at_ < c
  · rw [List.getElem?_append_left (by omega), List.getElem?_take_of_lt hlt, if_pos hlt]
    simp [row, show at_ < n by omega]
  · rw [List.getElem?_append_right (by omega), h1, List.getElem?_drop, if_neg hlt]
    simp only [row, List.getElem?_map]
    rw [List.getElem?_range (by omega)]
    simp; omega

set_option maxRecDepth 100000 in
set_option maxHeartbeats 8000000 in
theorem leaves_ok (many who : Int) (w : World) (hm : -9223372036854775808 ≤ many ∧ many ≤ 9223372036854775807) (hw : -9223372036854775808 ≤ who ∧ who ≤ 9223372036854775807) :
    Calls Try.prog 6 #[.int .i64 many, .int .i64 who] w fun e w' => e = .returned (.bool true) ∧ Below w.heap.size w w' := by
  have hp1 := pk_lt many 30 (by omega)
  have HPK := Lib.hid (fun W => pick_any many 30 W (by omega) (by omega) hm)
  obtain ⟨x, hx⟩ : ∃ x, x = pk many 30 := ⟨_, rfl⟩
  rw [← hx] at hp1 HPK
  have hp2 := pk_lt who (x + 1) (by omega)
  have HPW := Lib.hid (fun W => pick_any who (x + 1) W (by omega) (by omega) hw)
  obtain ⟨c, hc⟩ : ∃ c, c = pk who (x + 1) := ⟨_, rfl⟩
  rw [← hc] at hp2 HPW
  clear hx hc
  go_enter Try.func6, Try.ntmps6
  go_wp2_with fail
  refine (shown_true _).mono ?_; rintro e w1 ⟨rfl, hb1⟩
  have hz1 := hb1.size
  have HB1 := Lib.hid hb1
  clear hb1
  go_wp2_with fail
  refine (HPK.out _).mono ?_; rintro e w' ⟨rfl, rfl⟩
  go_wp2_with fail
  obtain ⟨n, hn⟩ : ∃ n, n = x + 1 := ⟨_, rfl⟩
  have HN2 := Lib.hid (show (1 : Int) + (x : Int) = (n : Int) by omega)
  have hn1 : 1 ≤ n ∧ n ≤ 30 := by omega
  rw [← hn] at hp2 HPW
  clear hn hp1
  obtain ⟨hn3, hn4⟩ := hn1
  rw [HN2.out]
  refine (qe_new n w1 (by omega)).mono ?_; rintro e w2 ⟨rfl, hq2⟩
  have HQ2 := Lib.hid hq2
  clear hq2 HN2 HPK
  go_wp2_with fail
  go_loopw [9, 9] (fun i _ wr => ∃ k : Nat, k ≤ n ∧ i = .int .i64 k ∧ QE w1 wr (w1.heap.size + 1) w1.heap.size n (row 100 k) k) (fun i _ _ => n - (intOf i).toNat)
  case atStart => exact ⟨0, Nat.zero_le _, rfl, HQ2.out⟩
  case round =>
    obtain ⟨k, hk, rfl, hQ⟩ := hrel
    have HQ := Lib.hid hQ
    clear hQ HQ2
    by_cases hlt : k < n
    · go_wp2_with fail
      refine (qe_join_ok HQ.out (100 + (k : Int)) k (by omega) (by omega) (row_look _ _ _ (by omega)) (by rw [row_length]; omega) (by omega)).mono ?_; rintro e w3 ⟨rfl, hQ3⟩
      rw [← row_succ] at hQ3
      have HQ3 := Lib.hid hQ3
      clear hQ3 HQ
      go_wp2_with fail
      go_roundw
      case rel => exact ⟨k + 1, by omega, by go_num, HQ3.out⟩
      case measure => simp [intOf]; omega
    · obtain rfl : k = n := by omega
      have HOUT := Lib.hid (row_out 100 k c hp2)
      go_wp2_with fail
      refine (HPW.out _).mono ?_; rintro e w' ⟨rfl, rfl⟩
      go_wp2_with fail
      refine (qe_join_full HQ.out 7 k (by omega) (row_look _ _ _ (by omega)) (by rw [row_length]; omega)).mono ?_; rintro e w3 ⟨rfl, hQ3⟩
      have HQ3 := Lib.hid hQ3
      clear hQ3 HQ
      go_wp2_with fail
      refine (qe_leave_yes HQ3.out (100 + (c : Int)) (by omega) (row_look_in _ _ _ hp2)).mono ?_; rintro e w4 ⟨rfl, hQ4⟩
      have HQ4 := Lib.hid hQ4
      clear hQ4 HQ3
      go_wp2_with fail
      refine (qe_leave_no HQ4.out (100 + (c : Int)) (by rw [look_filter, if_pos rfl])).mono ?_; rintro e w5 ⟨rfl, hQ5⟩
      have HQ5 := Lib.hid hQ5
      clear hQ5 HQ4
      go_wp2_with fail
      refine (qe_join_ok HQ5.out (100 + (c : Int)) k (by omega) (by omega) (by rw [look_filter, if_pos rfl]) (by rw [HOUT.out, List.length_append, List.length_take, List.length_drop, row_length]; omega) (by omega)).mono ?_; rintro e w6 ⟨rfl, hQ6⟩
      have HQ6 := Lib.hid hQ6
      clear hQ6 HQ5
      go_wp2_with fail
      refine (qe_join_state HQ6.out (100 + (c : Int)) k (by omega) (by rw [look_snoc _ _ _ _ (by rw [look_filter, if_pos rfl]), if_pos rfl]; rfl)).mono ?_; rintro e w7 ⟨rfl, hQ7⟩
      rw [HOUT.out] at hQ7
      have HQ7 := Lib.hid hQ7
      clear hQ7 HQ6
      go_wp2_with fail
      refine (qe_list HQ7.out).mono ?_; rintro e w8 ⟨u, rfl, hU, hQ8, _⟩
      have hlen : ((((row 100 k).take c ++ (row 100 k).drop (c + 1)) ++ [((100 + (c : Int)), (k : Int))]).map (·.1)).length = k := by
        rw [List.length_map, List.length_append, List.length_append, List.length_take, List.length_drop, row_length]; simp <;> omega
      obtain ⟨ids, hids⟩ : ∃ ids, ids = (((row 100 k).take c ++ (row 100 k).drop (c + 1)) ++ [((100 + (c : Int)), (k : Int))]).map (·.1) := ⟨_, rfl⟩
      rw [← hids] at hU hlen
      have hlast : ids[k - 1]? = some (100 + (c : Int)) := by
        rw [hids, List.map_append, List.getElem?_append_right (by rw [List.length_map, List.length_append, List.length_take, List.length_drop, row_length]; omega)]
        rw [List.length_map, List.length_append, List.length_take, List.length_drop, row_length, show k - 1 - (min c k + (k - (c + 1))) = 0 by omega]; rfl
      have HAT := Lib.hid (fun j (hj : j < k - 1) => (show ids[j]? = some (if j < c then (100 : Int) + (j : Int) else (100 : Int) + (j : Int) + 1) by rw [hids]; exact out_at 100 k c j (100 + (c : Int)) hp2 hj))
      obtain ⟨ua, uc, rfl⟩ := hU.form
      obtain ⟨b, off, rfl, hb, hcell⟩ := hU.open (by omega)
      rw [hlen]
      have hcells : ∀ j (v : Int), ids[j]? = some v → w8.cell? ⟨b, off + j, none⟩ = some (.int .i64 v) := fun j v hv => by
        obtain ⟨hj, hv2⟩ := List.getElem?_eq_some_iff.1 hv
        rw [hcell j hj, hv2]
      have d0 := hcells (k - 1) _ hlast
      have HC := Lib.hid hcells; have HB8 := Lib.hid (HB1.out.step hQ8.below hz1)
      clear hcells hcell hU hQ8 HQ7 hids hlen hlast
      have q1 : (1 : Int) ≤ k := by omega
      have q2 : ((k : Int) - 1).toNat = k - 1 := by omega
      have q3 : (0 : Int) ≤ (k : Int) - 1 := by omega
      go_wp2_with fail
      clear q1 q2 q3 d0
      go_loop [12, 13] (fun a i => ∃ j A : Nat, j ≤ k ∧ i = .int .i64 j ∧ a = .int .i64 A ∧ ((j ≤ c ∧ A = j) ∨ (c < j ∧ A + 1 = j))) (fun _ i => k - (intOf i).toNat)
      case atStart => exact ⟨0, 0, Nat.zero_le _, rfl, rfl, .inl ⟨Nat.zero_le _, rfl⟩⟩
      case round =>
        obtain ⟨j, A, hj, rfl, rfl, hA⟩ := hrel
        by_cases hjk : j < k
        · by_cases hjc : j = c
          · have hA2 : A = j := by omega
            subst hjc
            subst hA2
            go_wp2_with fail
            go_round
            case rel => exact ⟨A + 1, A, by omega, by go_num, rfl, .inr ⟨by omega, rfl⟩⟩
            case measure => simp [intOf]; omega
          · have hv : ids[A]? = some (100 + (j : Int)) := by
              rw [HAT.out A (by omega)]
              rcases hA with ⟨h1, h2⟩ | ⟨h1, h2⟩
              · rw [if_pos (by omega)]; congr 1; omega
              · rw [if_neg (by omega)]; congr 1; omega
            have d1 := HC.out A _ hv
            have hjc2 : ((100 : Int) + j == 100 + c) = false := by simp; omega
            have hjc3 : ¬ (100 : Int) + j = 100 + c := by omega
            have hAk : (A : Int) < k := by omega
            have HA := Lib.hid hA
            clear hv hA
            go_wp2_with fail
            go_round
            case rel => exact ⟨j + 1, A + 1, by omega, by go_num, by go_num, by have := HA.out; omega⟩
            case measure => simp [intOf]; omega
        · obtain rfl : j = k := by omega
          clear hA
          go_wp2_with fail
          go_ret
          exact ⟨rfl, HB8.out⟩

set_option maxRecDepth 100000 in
theorem leaves_lifted (os : Os) (started : os.Started) (H : Type) (enc : TypeId × Value → H) :
    ReturnsInHanded {} Try.checked os 6 .any (Rows.queueLeavesSpec.pre6 enc Try.prog Try.f6 Rows.queueLeavesRow.domain false) (Rows.queueLeavesSpec.post enc Try.prog Try.f6 false true false false) := by
  refine returnsInHanded_of_change (C := Try.checked) own started (by kernel_rfl) Try.func6
    (ChangeSpec.witness6 (enc := enc) (C := Try.checked) false ⟨#[], #[.int .i64 0, .int .i64 0], []⟩ 8 (by kernel_rfl) (by kernel_rfl) (by kernel_rfl) (by kernel_rfl)) ?_
  intro W base args ds gs before hval0 hW _ _
  have hval : ∀ (j : Nat) t v, Try.f6.params[j]? = some t → args[j]? = some v → Value.okWide Try.prog W .any base t v := hval0
  have hW' := hW
  obtain ⟨p, q, hA0, hV, rfl, _, _⟩ := hW
  have hA : DataW.TrodAll enc Try.prog W 0 (fun _ => true) true Try.f6.params.toList args.toList ds p := hA0
  rw [Try.params6] at hA hval
  obtain ⟨v0, v1, d0, d1, p0, p1, rfl, rfl, rfl, h0, h1⟩ := trodAll_two hA
  obtain ⟨rfl, rfl⟩ := trodVars_none hV
  obtain ⟨many, rfl, rfl, rfl, wf_many⟩ := open_int Try.underlying3 (hval 0 3 v0 rfl rfl) h0
  have h_many := int_range wf_many
  obtain ⟨who, rfl, rfl, rfl, wf_who⟩ := open_int Try.underlying3 (hval 1 3 v1 rfl rfl) h1
  have h_who := int_range wf_who
  refine (leaves_ok many who W h_many h_who).mono fun e W' ⟨he, hb⟩ => ?_
  subst he
  exact ⟨_, rfl, law_shut laidOut (by kernel_rfl) (by kernel_rfl) Try.underlying4 rfl hW' rfl hb⟩

theorem leaves_holds : Rows.QueueLeavesSaid :=
  OpenClaim.holds_of_wide 6 Try.f6 rfl rfl rfl rfl rfl rfl rfl ⟨rfl, rfl, rfl, rfl, rfl⟩ rfl rfl rfl rfl rfl (by kernel_rfl) Try.func6 (by kernel_rfl)
    (of_decide_eq_true (by kernel_rfl)) (by unfold Func.isWrapper; rw [if_neg (of_decide_eq_false (by kernel_rfl))]; exact ⟨rfl, rfl⟩)
    (fun os started H enc _ => leaves_lifted os started H enc)
end Go.Proofs.Ytcklfdpmggoafaa
