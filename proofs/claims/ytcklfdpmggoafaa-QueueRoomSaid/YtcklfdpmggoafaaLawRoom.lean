/- However many may wait, leave, wait too long: QueueRoom answers true, and leaves what was there as it was. -/
import Derived.Test.YtcklfdpmggoafaaLawLeaves
namespace Go.Proofs.Ytcklfdpmggoafaa
open Go.RowKit Go.Lib Go.WideShapes Go.ChangeShapes Go.ChangeAt Go.Joins

theorem row0_succ (n : Nat) : row 0 (n + 1) = row 0 n ++ [((n : Int), (n : Int))] := by rw [row_succ, Int.zero_add]

theorem row0_drop (n i : Nat) (h : i < n) : (row 0 n).drop i = ((i : Int), (i : Int)) :: (row 0 n).drop (i + 1) := by
  rw [List.drop_eq_getElem_cons (by rw [row_length]; exact h)]
  congr 1
  simp [row]

theorem row0_nodup (n : Nat) : ((row 0 n).map (·.1)).Nodup := by
  rw [row_ids]
  exact List.pairwise_map.2 (List.Pairwise.imp (fun h e => h (by omega)) List.nodup_range)

theorem row0_leave (n i : Nat) (h : i < n) : ((row 0 n).drop i).filter (fun q => !decide (q.1 = (i : Int))) = (row 0 n).drop (i + 1) := by
  have hn : (((row 0 n).drop i).map (·.1)).Nodup := (row0_nodup n).sublist (List.Sublist.map _ (List.drop_sublist _ _))
  rw [row0_drop n i h] at hn ⊢
  exact del_front (R := []) hn

theorem row0_there (n i : Nat) (h : i < n) : (look ((row 0 n).drop i) (i : Int)).isSome = true := by
  rw [row0_drop n i h, look_cons, if_pos rfl]; rfl

theorem row0_ids {n : Nat} {q : Int × Int} (h : q ∈ row 0 n) : 0 ≤ q.1 ∧ q.1 < n := by
  obtain ⟨j, hj, rfl⟩ := List.mem_map.1 h
  have := List.mem_range.1 hj
  simp; omega

/-- Those that join behind, all at one time. -/
def more (r : Nat) (t : Int) : Waits := (List.range r).map fun (j : Nat) => (100 + (j : Int), t)
theorem more_length (r : Nat) (t : Int) : (more r t).length = r := by simp [more]
theorem more_succ (r : Nat) (t : Int) : more (r + 1) t = more r t ++ [(100 + (r : Int), t)] := by simp [more, List.range_succ]

theorem more_look {R : Waits} {n : Nat} (hR : ∀ q ∈ R, 0 ≤ q.1 ∧ q.1 < n) (hn : n ≤ 100) (r i : Nat) (t : Int) (h : r ≤ i) : look (R ++ more r t) (100 + (i : Int)) = none := by
  rw [look_none, List.map_append, List.mem_append, not_or]
  constructor
  · intro hm
    obtain ⟨q, hq, e⟩ := List.mem_map.1 hm
    have := hR q hq
    omega
  · intro hm
    obtain ⟨q, hq, e⟩ := List.mem_map.1 hm
    obtain ⟨j, hj, rfl⟩ := List.mem_map.1 hq
    have := List.mem_range.1 hj
    simp at e; omega

theorem split_length (L : Waits) (f : Int × Int → Bool) : (L.filter f).length + (L.filter fun q => !f q).length = L.length := by
  induction L with
  | nil => rfl
  | cons q L ih => cases h : f q <;> simp [h] <;> omega

set_option maxRecDepth 100000 in
set_option maxHeartbeats 8000000 in
theorem room_ok (most leave wait : Int) (w : World) (hm : -9223372036854775808 ≤ most ∧ most ≤ 9223372036854775807) (hl : -9223372036854775808 ≤ leave ∧ leave ≤ 9223372036854775807) (hw : -9223372036854775808 ≤ wait ∧ wait ≤ 9223372036854775807) :
    Calls Try.prog 8 #[.int .i64 most, .int .i64 leave, .int .i64 wait] w fun e w' => e = .returned (.bool true) ∧ Below w.heap.size w w' := by
  have hp1 := pk_lt most 20 (by omega)
  have HPK := Lib.hid (fun W => pick_any most 20 W (by omega) (by omega) hm)
  obtain ⟨x, hx⟩ : ∃ x, x = pk most 20 := ⟨_, rfl⟩
  rw [← hx] at hp1 HPK
  have hp2 := pk_lt leave (x + 2) (by omega)
  have HPL := Lib.hid (fun W => pick_any leave (x + 2) W (by omega) (by omega) hl)
  obtain ⟨c, hc⟩ : ∃ c, c = pk leave (x + 2) := ⟨_, rfl⟩
  rw [← hc] at hp2 HPL
  have hp3 := pk_lt wait 30 (by omega)
  have HPT := Lib.hid (fun W => pick_any wait 30 W (by omega) (by omega) hw)
  obtain ⟨y, hy⟩ : ∃ y, y = pk wait 30 := ⟨_, rfl⟩
  rw [← hy] at hp3 HPT
  clear hx hc hy
  go_enter Try.func8, Try.ntmps8
  go_wp2_with fail
  refine (shown_true _).mono ?_; rintro e w1 ⟨rfl, hb1⟩
  have hz1 := hb1.size
  have HB1 := Lib.hid hb1
  clear hb1
  go_wp2_with fail
  refine (HPK.out _).mono ?_; rintro e w' ⟨rfl, rfl⟩
  go_wp2_with fail
  obtain ⟨n, hn⟩ : ∃ n, n = x + 1 := ⟨_, rfl⟩
  have HN2 := Lib.hid (show (1 : Int) + (x : Int) = (n : Int) by omega)
  have hn1 : 1 ≤ n ∧ n ≤ 20 := by omega
  have hn5 : x + 2 = n + 1 := by omega
  rw [hn5] at hp2 HPL
  clear hn hp1 hn5
  obtain ⟨hn3, hn4⟩ := hn1
  rw [HN2.out]
  refine (qe_new n w1 (by omega)).mono ?_; rintro e w2 ⟨rfl, hq2⟩
  have HQ2 := Lib.hid hq2
  clear hq2 HN2 HPK
  go_wp2_with fail
  go_loopw [11, 11] (fun i _ wr => ∃ k : Nat, k ≤ n ∧ i = .int .i64 k ∧ QE w1 wr (w1.heap.size + 1) w1.heap.size n (row 0 k) k) (fun i _ _ => n - (intOf i).toNat)
  case atStart => exact ⟨0, Nat.zero_le _, rfl, HQ2.out⟩
  case round =>
    obtain ⟨k, hk, rfl, hQ⟩ := hrel
    have HQ := Lib.hid hQ
    clear hQ HQ2
    by_cases hlt : k < n
    · go_wp2_with fail
      refine (qe_join_ok HQ.out (k : Int) k (by omega) (by omega) (row_look 0 k _ (by omega)) (by rw [row_length]; omega) (by omega)).mono ?_; rintro e w3 ⟨rfl, hQ3⟩
      rw [← row0_succ] at hQ3
      have HQ3 := Lib.hid hQ3
      clear hQ3 HQ
      go_wp2_with fail
      go_roundw
      case rel => exact ⟨k + 1, by omega, by go_num, HQ3.out⟩
      case measure => simp [intOf]; omega
    · obtain rfl : k = n := by omega
      go_wp2_with fail
      rw [show ((k : Int) + 1) = ((k + 1 : Nat) : Int) by omega]
      refine (HPL.out _).mono ?_; rintro e w' ⟨rfl, rfl⟩
      clear HPL
      go_wp2_with fail
      go_loopw [13, 13] (fun i _ wq => ∃ j : Nat, j ≤ c ∧ i = .int .i64 j ∧ QE w1 wq (w1.heap.size + 1) w1.heap.size k ((row 0 k).drop j) k) (fun i _ _ => c - (intOf i).toNat)
      case atStart => exact ⟨0, Nat.zero_le _, rfl, HQ.out⟩
      case round =>
        obtain ⟨j, hj, rfl, hQ⟩ := hrel
        have HQ4 := Lib.hid hQ
        clear hQ HQ
        by_cases hlt2 : j < c
        · go_wp2_with fail
          refine (qe_leave_yes HQ4.out (j : Int) (by omega) (row0_there k j (by omega))).mono ?_; rintro e w4 ⟨rfl, hQ5⟩
          rw [row0_leave k j (by omega)] at hQ5
          have HQ5 := Lib.hid hQ5
          clear hQ5 HQ4
          go_wp2_with fail
          go_roundw
          case rel => exact ⟨j + 1, by omega, by go_num, HQ5.out⟩
          case measure => simp [intOf]; omega
        · obtain rfl : j = c := by omega
          go_wp2_with fail
          refine (HPT.out _).mono ?_; rintro e w' ⟨rfl, rfl⟩
          clear HPT
          go_wp2_with fail
          refine (qe_expire_on HQ4.out (k : Int) (1 + (y : Int)) (by omega) (by omega)).mono ?_; rintro e w5 ⟨u, rfl, hU, hQ6⟩
          have HSP := Lib.hid (split_length ((row 0 k).drop j) (late (k : Int) (1 + (y : Int))))
          have hRI : ∀ q ∈ ((row 0 k).drop j).filter (fun q => !late (k : Int) (1 + (y : Int)) q), 0 ≤ q.1 ∧ q.1 < k := fun q hq => row0_ids (List.drop_subset _ _ (List.mem_filter.1 hq).1)
          have hlate : (((row 0 k).drop j).filter (late (k : Int) (1 + (y : Int)))).length ≤ 20 := Nat.le_trans (List.length_filter_le _ _) (by rw [List.length_drop, row_length]; omega)
          obtain ⟨ua, uc, rfl⟩ := hU.form
          rw [List.length_map]
          obtain ⟨lt, hlt3⟩ : ∃ lt, lt = (((row 0 k).drop j).filter (late (k : Int) (1 + (y : Int)))).length := ⟨_, rfl⟩
          obtain ⟨R, hR⟩ : ∃ R, R = ((row 0 k).drop j).filter fun q => !late (k : Int) (1 + (y : Int)) q := ⟨_, rfl⟩
          rw [← hlt3] at HSP hlate ⊢
          rw [← hR] at HSP hRI hQ6
          have hsum : lt + R.length + j = k := by have := HSP.out; rw [List.length_drop, row_length] at this; omega
          have HQ6 := Lib.hid hQ6; have HRI := Lib.hid hRI; have HSUM := Lib.hid hsum
          have hR2 : R.length ≤ k := by omega
          clear hQ6 hRI hU HQ4 hlt3 hR HSP hsum
          go_wp2_with fail
          go_loopw [15, 16] (fun a i wz => ∃ i' r : Nat, i' ≤ 50 ∧ r ≤ i' ∧ i = .int .i64 i' ∧ a = .int .i64 r ∧ R.length + r ≤ k ∧ (r = i' ∨ R.length + r = k) ∧ QE w1 wz (w1.heap.size + 1) w1.heap.size k (R ++ more r k) (k + i')) (fun _ i _ => 50 - (intOf i).toNat)
          case atStart => exact ⟨0, 0, Nat.zero_le _, Nat.le_refl _, rfl, rfl, hR2, .inl rfl, by simpa [more] using HQ6.out⟩
          case round =>
            obtain ⟨i', r, hi, hri, rfl, rfl, hrk, hcase, hQ7⟩ := hrel
            have HQ7 := Lib.hid hQ7
            clear hQ7 HQ6
            by_cases hlt4 : i' < 50
            · by_cases hfull : R.length + r < k
              · obtain rfl : r = i' := by omega
                go_wp2_with fail
                refine (qe_join_ok HQ7.out (100 + (r : Int)) k (by omega) (by omega) (more_look HRI.out (by omega) r r k (Nat.le_refl _)) (by rw [List.length_append, more_length]; omega) (by omega)).mono ?_; rintro e w6 ⟨rfl, hQ8⟩
                rw [List.append_assoc, ← more_succ] at hQ8
                have HQ8 := Lib.hid hQ8
                clear hQ8 HQ7 hcase
                go_wp2_with fail
                go_roundw
                case rel => exact ⟨r + 1, r + 1, by omega, by omega, by go_num, by go_num, by omega, .inl rfl, HQ8.out⟩
                case measure => simp [intOf]; omega
              · go_wp2_with fail
                refine (qe_join_full HQ7.out (100 + (i' : Int)) k (by omega) (more_look HRI.out (by omega) r i' k hri) (by rw [List.length_append, more_length]; omega)).mono ?_; rintro e w6 ⟨rfl, hQ8⟩
                have HQ8 := Lib.hid hQ8
                clear hQ8 HQ7 hcase
                go_wp2_with fail
                go_roundw
                case rel => exact ⟨i' + 1, r, by omega, by omega, by go_num, rfl, by omega, .inr (by omega), HQ8.out.more (by omega)⟩
                case measure => simp [intOf]; omega
            · obtain rfl : i' = 50 := by omega
              have hrr : r = j + lt := by have := HSUM.out; omega
              have hb1 : ((r : Int) == (j : Int) + (lt : Int)) = true := by rw [hrr]; simp
              have HRR := Lib.hid hrr
              clear hcase hrr
              go_wp2_with fail
              refine (qe_list HQ7.out).mono ?_; rintro e w6 ⟨u6, rfl, hU6, hQ9, _⟩
              have HB9 := Lib.hid (HB1.out.step hQ9.below hz1)
              have hlen6 : ((R ++ more r k).map (·.1)).length = k := by rw [List.length_map, List.length_append, more_length]; have := HSUM.out; have := HRR.out; omega
              obtain ⟨va, vc, rfl⟩ := hU6.form
              rw [hlen6]
              clear hU6 hQ9 HQ7 hlen6
              go_wp2_with fail
              go_ret
              exact ⟨rfl, HB9.out⟩

set_option maxRecDepth 100000 in
theorem room_lifted (os : Os) (started : os.Started) (H : Type) (enc : TypeId × Value → H) :
    ReturnsInHanded {} Try.checked os 8 .any (Rows.queueRoomSpec.pre6 enc Try.prog Try.f8 Rows.queueRoomRow.domain false) (Rows.queueRoomSpec.post enc Try.prog Try.f8 false true false false) := by
  refine returnsInHanded_of_change (C := Try.checked) own started (by kernel_rfl) Try.func8
    (ChangeSpec.witness6 (enc := enc) (C := Try.checked) false ⟨#[], #[.int .i64 0, .int .i64 0, .int .i64 0], []⟩ 8 (by kernel_rfl) (by kernel_rfl) (by kernel_rfl) (by kernel_rfl)) ?_
  intro W base args ds gs before hval0 hW _ _
  have hval : ∀ (j : Nat) t v, Try.f8.params[j]? = some t → args[j]? = some v → Value.okWide Try.prog W .any base t v := hval0
  have hW' := hW
  obtain ⟨p, q, hA0, hV, rfl, _, _⟩ := hW
  have hA : DataW.TrodAll enc Try.prog W 0 (fun _ => true) true Try.f8.params.toList args.toList ds p := hA0
  rw [Try.params8] at hA hval
  obtain ⟨v0, v1, v2, d0, d1, d2, p0, p1, p2, rfl, rfl, rfl, h0, h1, h2⟩ := trodAll_three hA
  obtain ⟨rfl, rfl⟩ := trodVars_none hV
  obtain ⟨most, rfl, rfl, rfl, wf_most⟩ := open_int Try.underlying3 (hval 0 3 v0 rfl rfl) h0
  have h_most := int_range wf_most
  obtain ⟨leave, rfl, rfl, rfl, wf_leave⟩ := open_int Try.underlying3 (hval 1 3 v1 rfl rfl) h1
  have h_leave := int_range wf_leave
  obtain ⟨wait, rfl, rfl, rfl, wf_wait⟩ := open_int Try.underlying3 (hval 2 3 v2 rfl rfl) h2
  have h_wait := int_range wf_wait
  refine (room_ok most leave wait W h_most h_leave h_wait).mono fun e W' ⟨he, hb⟩ => ?_
  subst he
  exact ⟨_, rfl, law_shut laidOut (by kernel_rfl) (by kernel_rfl) Try.underlying4 rfl hW' rfl hb⟩

theorem room_holds : Rows.QueueRoomSaid :=
  OpenClaim.holds_of_wide 8 Try.f8 rfl rfl rfl rfl rfl rfl rfl ⟨rfl, rfl, rfl, rfl, rfl⟩ rfl rfl rfl rfl rfl (by kernel_rfl) Try.func8 (by kernel_rfl)
    (of_decide_eq_true (by kernel_rfl)) (by unfold Func.isWrapper; rw [if_neg (of_decide_eq_false (by kernel_rfl))]; exact ⟨rfl, rfl⟩)
    (fun os started H enc _ => room_lifted os started H enc)
end Go.Proofs.Ytcklfdpmggoafaa
