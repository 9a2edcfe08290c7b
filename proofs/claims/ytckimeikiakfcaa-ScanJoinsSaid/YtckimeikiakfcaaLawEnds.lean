/- What has no end: ScanEnds answers true, and leaves what was there as it was. -/
import Derived.Test.YtckimeikiakfcaaLawNumbers
import Derived.Test.YtckimeikiakfcaaEndM
namespace Go.Proofs.Ytckimeikiakfcaa
open Go.RowKit Go.Lib Go.WideShapes Go.ChangeShapes Go.ChangeAt Go.Joins

/-- What Scan tells of a text that is not too long: tokens, or none. -/
theorem scan_small (s : ByteArray) (m : Int) (w : World) (hs : s.size ≤ 2000) (hm : w.cell? ⟨0, 0, none⟩ = some (.int .i64 m)) :
    Calls Try.prog 8 #[.string s] w fun e w' => Below w.heap.size w w' ∧ ((tokens (bytes s) = none ∧ ∃ p c : _, e = .returned (.tuple #[.slice p 0 c, .int .i64 2])) ∨ ∃ L p c, tokens (bytes s) = some L ∧ e = .returned (.tuple #[.slice p L.length c, .int .i64 0]) ∧ L.length ≤ 9223372036854775807 ∧ w'.ownsRow w.heap.size 28 4 (.slice p L.length c) L.length (tokC L)) := by
  refine (scan_any s m w (by omega) hm).mono ?_
  rintro e w' ⟨v, rfl, hO, hB⟩
  refine ⟨hB, ?_⟩
  cases hT : tokens (bytes s) with
  | none =>
    have ht : told (bytes s) = ([], 2) := by unfold told; rw [if_neg (by rw [bytes_len]; omega), hT]
    rw [ht] at hO ⊢
    refine .inl ⟨rfl, ?_⟩
    rcases hO.2 with ⟨rfl, _⟩ | ⟨g, cap, cur, rfl, _⟩
    · exact ⟨none, 0, rfl⟩
    · exact ⟨_, _, rfl⟩
  | some L =>
    have ht : told (bytes s) = (L, 0) := by unfold told; rw [if_neg (by rw [bytes_len]; omega), hT]
    rw [ht] at hO ⊢
    refine .inr ?_
    have hr := hO
    rcases hO.2 with ⟨rfl, hn⟩ | ⟨g, cap, cur, rfl, _, _, hn, hc, _⟩
    · have hn : L.length = 0 := hn
      exact ⟨L, none, 0, rfl, by rw [hn], by omega, by rw [hn] at hr ⊢; exact hr⟩
    · have hn : L.length ≤ cap := hn
      exact ⟨L, _, cap, rfl, rfl, by unfold maxLen at hc; omega, hr⟩

theorem clean_of (t : ByteArray) (h : ∀ i : Nat, i < t.size → pb t i ≠ 39 ∧ pb t i ≠ 34 ∧ pb t i ≠ 36 ∧ pb t i ≠ 42 ∧ pb t i ≠ 92) : Clean (bytes t) := by
  intro b hb
  obtain ⟨i, hi, rfl⟩ := List.mem_iff_getElem.1 hb
  have hi' : i < t.size := by rw [← bytes_len]; exact hi
  have e : pb t i = ((bytes t)[i]'hi).toNat := by
    unfold pb
    rw [List.getD, List.getElem?_eq_getElem hi]; rfl
  have := h i hi'
  rw [e] at this
  refine ⟨fun e => this.1 ?_, fun e => this.2.1 ?_, fun e => this.2.2.1 ?_, fun e => this.2.2.2.1 ?_, fun e => this.2.2.2.2 ?_⟩ <;> (rw [e]; rfl)

theorem size_list (s : ByteArray) : s.data.toList.length = s.size := by simp

def opn : Nat → ByteArray
  | 0 => { data := #[39] } | 1 => { data := #[101, 39] } | 2 => { data := #[34] } | 3 => { data := #[47, 42] } | 4 => { data := #[36, 113, 36] } | _ => { data := #[36, 36] }
theorem opn_mem (i : Nat) (h : i < 6) : bytes (opn i) ∈ opened ∧ (opn i).size ≤ 3 := by
  rcases (by omega : i = 0 ∨ i = 1 ∨ i = 2 ∨ i = 3 ∨ i = 4 ∨ i = 5) with rfl | rfl | rfl | rfl | rfl | rfl <;> exact ⟨by decide, by decide⟩
theorem opn_cell (w : World) (i : Nat) (h : i < 6) (u : TypeId) : (w.alloc (.cells #[.string { data := #[39] }, .string { data := #[101, 39] }, .string { data := #[34] }, .string { data := #[47, 42] }, .string { data := #[36, 113, 36] }, .string { data := #[36, 36] }] u)).cell? ⟨w.heap.size, i, none⟩ = some (.string (opn i)) := by
  rcases (by omega : i = 0 ∨ i = 1 ∨ i = 2 ∨ i = 3 ∨ i = 4 ∨ i = 5) with rfl | rfl | rfl | rfl | rfl | rfl <;> exact World.cell?_alloc_new _ _ _ _

set_option maxRecDepth 100000 in
set_option maxHeartbeats 4000000 in
theorem ends_ok (s t : ByteArray) (what m : Int) (w : World) (hs : s.size ≤ 140737488351232) (ht : t.size ≤ 140737488351232) (hwh : -9223372036854775808 ≤ what ∧ what ≤ 9223372036854775807) (hm : w.cell? ⟨0, 0, none⟩ = some (.int .i64 m)) :
    Calls Try.prog 4 #[.string s, .string t, .int .i64 what] w fun e w' => e = .returned (.bool true) ∧ Below w.heap.size w w' := by
  have HM := Lib.hid hm
  have HW0 := Lib.hid (World.block_lt_of_cell? w ⟨0, 0, none⟩ hm)
  have HSH := Lib.hid (shown_true m w hm)
  have HSC := Lib.hid (fun (S : ByteArray) (W : World) h1 h2 => scan_small S m W h1 h2)
  clear hm
  by_cases hl : (s.size : Int) + t.size ≤ 1500
  · go_enter Try.func4, Try.ntmps4
    go_wp2_with fail
    refine HSH.out.mono ?_; rintro e w1 ⟨rfl, hb1⟩
    have HB1 := Lib.hid hb1
    clear hb1
    go_wp2_with fail
    go_loopg [8] t.size (fun g v wr => ∃ j : Nat, v = .int .i64 j ∧ j ≤ t.size ∧ g = t.size - j ∧ wr = w1 ∧ ∀ i : Nat, i < j → pb t i ≠ 39 ∧ pb t i ≠ 34 ∧ pb t i ≠ 36 ∧ pb t i ≠ 42 ∧ pb t i ≠ 92)
    case atStart => exact ⟨0, rfl, Nat.zero_le _, rfl, rfl, fun i h => absurd h (Nat.not_lt_zero _)⟩
    case round =>
      obtain ⟨j, rfl, hj, hg, rfl, hc⟩ := hrel
      have HC := Lib.hid hc; have HG := Lib.hid hg
      clear hc hg
      by_cases hlt : j < t.size
      · have hlt' : (j : Int) < t.size := by omega
        have HPB := Lib.hid (pb_at t j hlt)
        go_wp2_with fail
        all_goals first | (go_ret; exact ⟨rfl, HB1.out⟩) | skip
        go_roundg (t.size - (j + 1))
        case measure => have := HG.out; omega
        case rel =>
          refine ⟨j + 1, by go_num, by omega, rfl, rfl, fun i hi => ?_⟩
          rcases Nat.lt_succ_iff_lt_or_eq.1 hi with h | rfl
          · exact HC.out i h
          · rw [← HPB.out]
            refine ⟨fun e => ?_, fun e => ?_, fun e => ?_, fun e => ?_, fun e => ?_⟩ <;> simp_all
      · have hlt' : (t.size : Int) ≤ j := by omega
        have HCL := Lib.hid (clean_of t (fun i hi => HC.out i (by omega)))
        have HM1 := Lib.hid ((HB1.out.cell (p := ⟨0, 0, none⟩) HW0.out).trans HM.out)
        clear HC HG
        by_cases hw : what < 0
        · go_wp2_with fail
          have HM2 := Lib.hid (Lib.cell?_alloc_some (Obj.cells #[.string { data := #[39] }, .string { data := #[101, 39] }, .string { data := #[34] }, .string { data := #[47, 42] }, .string { data := #[36, 113, 36] }, .string { data := #[36, 36] }] 9) HM1.out)
          have HC2 := Lib.hid (fun i hi => opn_cell wr i hi 9)
          have HB2 := Lib.hid (HB1.out.alloc HB1.out.size (Obj.cells #[.string { data := #[39] }, .string { data := #[101, 39] }, .string { data := #[34] }, .string { data := #[47, 42] }, .string { data := #[36, 113, 36] }, .string { data := #[36, 36] }] 9))
          have hgz : wr.heap.size < (wr.alloc (Obj.cells #[.string { data := #[39] }, .string { data := #[101, 39] }, .string { data := #[34] }, .string { data := #[47, 42] }, .string { data := #[36, 113, 36] }, .string { data := #[36, 36] }] 9)).heap.size := by simp
          have hg1 := HB1.out.size
          have r9 : (what + 1).tmod 6 = -((-(what + 1)) % 6) := by
            rw [← Int.tmod_eq_emod_of_nonneg (by omega), Int.neg_tmod]; omega
          have r0 : (what + 1).tmod 6 ≤ 0 := by omega
          have r1 : -(what + 1).tmod 6 < 6 := by omega
          clear r9
          have hi6l : (-(what + 1).tmod 6).toNat < 6 := by omega
          have HO6 := Lib.hid (opn_mem (-(what + 1).tmod 6).toNat hi6l)
          generalize wr.alloc (Obj.cells #[.string { data := #[39] }, .string { data := #[101, 39] }, .string { data := #[34] }, .string { data := #[47, 42] }, .string { data := #[36, 113, 36] }, .string { data := #[36, 36] }] 9) = w2 at HM2 HC2 HB2 hgz ⊢
          refine (HSC.out s w2 (by omega) HM2.out).mono ?_; rintro e w3 ⟨hb3, hcs⟩
          have HB3 := Lib.hid (HB2.out.step hb3 HB2.out.size)
          have HM3 := Lib.hid ((hb3.cell (World.block_lt_of_cell? w2 ⟨0, 0, none⟩ HM2.out)).trans HM2.out)
          have d6 : w3.cell? ⟨wr.heap.size, (-(what + 1).tmod 6).toNat, none⟩ = some (.string (opn (-(what + 1).tmod 6).toNat)) := (hb3.cell hgz).trans (HC2.out (-(what + 1).tmod 6).toNat hi6l)
          clear hb3 hi6l
          have hb6 := HO6.out.2
          generalize hO : opn (-(what + 1).tmod 6).toNat = O at d6 HO6 hb6
          clear hO
          rcases hcs with ⟨hT, p, c, rfl⟩ | ⟨L, p, c, hT, rfl, hLl, _⟩
          · clear hT
            go_wp2_with fail
            refine (HSC.out _ w3 (by simp only [ByteArray.size_append]; show s.size + 2 + O.size + t.size ≤ 2000; omega) HM3.out).mono ?_; rintro e w4 ⟨hb4, hcs⟩
            have HB4 := Lib.hid (HB3.out.step hb4 HB3.out.size)
            clear hb4
            rcases hcs with ⟨_, p, c, rfl⟩ | ⟨L, p, c, _, rfl, hLl, _⟩
            · go_wp2_with fail
              go_ret
              exact ⟨rfl, HB4.out⟩
            · go_wp2_with fail
              go_ret
              exact ⟨rfl, HB4.out⟩
          · have HN := Lib.hid (ends_none (bytes s) hT HO6.out.1 HCL.out)
            clear hT
            go_wp2_with fail
            refine (HSC.out _ w3 (by simp only [ByteArray.size_append]; show s.size + 2 + O.size + t.size ≤ 2000; omega) HM3.out).mono ?_; rintro e w4 ⟨hb4, hcs⟩
            have HB4 := Lib.hid (HB3.out.step hb4 HB3.out.size)
            clear hb4
            rcases hcs with ⟨_, p, c, rfl⟩ | ⟨L', p', c', hT', _⟩
            · go_wp2_with fail
              go_ret
              exact ⟨rfl, HB4.out⟩
            · exfalso
              rw [bytes_append, bytes_append, bytes_append, show ((bytes s ++ bytes { data := #[10, 32] }) ++ bytes O) ++ bytes t = bytes s ++ 10 :: 32 :: (bytes O ++ bytes t) by show ((bytes s ++ [10, 32]) ++ bytes O) ++ bytes t = _; simp, HN.out] at hT'
              cases hT'
        · have hw' : 0 ≤ what := by omega
          go_wp2_with fail
          have HM2 := Lib.hid (Lib.cell?_alloc_some (Obj.cells #[.string { data := #[39] }, .string { data := #[101, 39] }, .string { data := #[34] }, .string { data := #[47, 42] }, .string { data := #[36, 113, 36] }, .string { data := #[36, 36] }] 9) HM1.out)
          have HC2 := Lib.hid (fun i hi => opn_cell wr i hi 9)
          have HB2 := Lib.hid (HB1.out.alloc HB1.out.size (Obj.cells #[.string { data := #[39] }, .string { data := #[101, 39] }, .string { data := #[34] }, .string { data := #[47, 42] }, .string { data := #[36, 113, 36] }, .string { data := #[36, 36] }] 9))
          have hgz : wr.heap.size < (wr.alloc (Obj.cells #[.string { data := #[39] }, .string { data := #[101, 39] }, .string { data := #[34] }, .string { data := #[47, 42] }, .string { data := #[36, 113, 36] }, .string { data := #[36, 36] }] 9)).heap.size := by simp
          have hg1 := HB1.out.size
          have r0 : 0 ≤ what % 6 := by omega
          have r1 : what % 6 < 6 := by omega
          have hi6l : (what % 6).toNat < 6 := by omega
          have HO6 := Lib.hid (opn_mem (what % 6).toNat hi6l)
          generalize wr.alloc (Obj.cells #[.string { data := #[39] }, .string { data := #[101, 39] }, .string { data := #[34] }, .string { data := #[47, 42] }, .string { data := #[36, 113, 36] }, .string { data := #[36, 36] }] 9) = w2 at HM2 HC2 HB2 hgz ⊢
          refine (HSC.out s w2 (by omega) HM2.out).mono ?_; rintro e w3 ⟨hb3, hcs⟩
          have HB3 := Lib.hid (HB2.out.step hb3 HB2.out.size)
          have HM3 := Lib.hid ((hb3.cell (World.block_lt_of_cell? w2 ⟨0, 0, none⟩ HM2.out)).trans HM2.out)
          have d6 : w3.cell? ⟨wr.heap.size, (what % 6).toNat, none⟩ = some (.string (opn (what % 6).toNat)) := (hb3.cell hgz).trans (HC2.out (what % 6).toNat hi6l)
          clear hb3 hi6l
          have hb6 := HO6.out.2
          generalize hO : opn (what % 6).toNat = O at d6 HO6 hb6
          clear hO
          rcases hcs with ⟨hT, p, c, rfl⟩ | ⟨L, p, c, hT, rfl, hLl, _⟩
          · clear hT
            go_wp2_with fail
            refine (HSC.out _ w3 (by simp only [ByteArray.size_append]; show s.size + 2 + O.size + t.size ≤ 2000; omega) HM3.out).mono ?_; rintro e w4 ⟨hb4, hcs⟩
            have HB4 := Lib.hid (HB3.out.step hb4 HB3.out.size)
            clear hb4
            rcases hcs with ⟨_, p, c, rfl⟩ | ⟨L, p, c, _, rfl, hLl, _⟩
            · go_wp2_with fail
              go_ret
              exact ⟨rfl, HB4.out⟩
            · go_wp2_with fail
              go_ret
              exact ⟨rfl, HB4.out⟩
          · have HN := Lib.hid (ends_none (bytes s) hT HO6.out.1 HCL.out)
            clear hT
            go_wp2_with fail
            refine (HSC.out _ w3 (by simp only [ByteArray.size_append]; show s.size + 2 + O.size + t.size ≤ 2000; omega) HM3.out).mono ?_; rintro e w4 ⟨hb4, hcs⟩
            have HB4 := Lib.hid (HB3.out.step hb4 HB3.out.size)
            clear hb4
            rcases hcs with ⟨_, p, c, rfl⟩ | ⟨L', p', c', hT', _⟩
            · go_wp2_with fail
              go_ret
              exact ⟨rfl, HB4.out⟩
            · exfalso
              rw [bytes_append, bytes_append, bytes_append, show ((bytes s ++ bytes { data := #[10, 32] }) ++ bytes O) ++ bytes t = bytes s ++ 10 :: 32 :: (bytes O ++ bytes t) by show ((bytes s ++ [10, 32]) ++ bytes O) ++ bytes t = _; simp, HN.out] at hT'
              cases hT'
  · go_enter Try.func4, Try.ntmps4
    go_wp2_with fail
    refine HSH.out.mono ?_; rintro e w1 ⟨rfl, hb1⟩
    have HB1 := Lib.hid hb1
    clear hb1
    go_wp2_with fail
    go_ret
    exact ⟨rfl, HB1.out⟩

set_option maxRecDepth 100000 in
theorem ends_lifted (os : Os) (started : os.Started) (H : Type) (enc : TypeId × Value → H) :
    ReturnsInHanded {} Try.checked os 4 .any (Rows.scanEndsSpec.pre6 enc Try.prog Try.f4 Rows.scanEndsRow.domain false) (Rows.scanEndsSpec.post enc Try.prog Try.f4 false true false false) := by
  refine returnsInHanded_of_change_shaped (C := Try.checked) own started (by kernel_rfl) Try.func4
    (ChangeSpec.witness6 (enc := enc) (C := Try.checked) false ⟨#[], #[.string { data := #[] }, .string { data := #[] }, .int .i64 0], []⟩ 8 (by kernel_rfl) (by kernel_rfl) (by kernel_rfl) (by kernel_rfl)) ?_
  intro W base args ds gs before hval0 hW _ hsz0 hsh _
  obtain ⟨m, hm⟩ : ∃ m, W.cell? ⟨0, 0, none⟩ = some (.int .i64 m) := Try.laysM143.s1_3 W hsh
  have hsz : (DataW.weightsEach Try.prog (Try.f4.params.toList ++ Rows.scanEndsSpec.plain.varTypes Try.prog) (ds ++ gs)).all (· ≤ reachBytes) = true := hsz0
  clear hsz0
  have hval : ∀ (j : Nat) t v, Try.f4.params[j]? = some t → args[j]? = some v → Value.okWide Try.prog W .any base t v := hval0
  have hW' := hW
  obtain ⟨p, q, hA0, hV, rfl, _, _⟩ := hW
  have hA : DataW.TrodAll enc Try.prog W 0 (fun _ => true) true Try.f4.params.toList args.toList ds p := hA0
  rw [Try.params4] at hA hval hsz
  obtain ⟨v0, v1, v2, d0, d1, d2, p0, p1, p2, rfl, rfl, rfl, h0, h1, h2⟩ := trodAll_three hA
  obtain ⟨rfl, rfl⟩ := trodVars_none hV
  obtain ⟨s, rfl, rfl, rfl, hl_s⟩ := Go.ChangeMaps.open_string Try.underlying9 (hval 0 9 v0 rfl rfl) h0
  have hz_s : s.size ≤ 140737488351232 := by have := sized_string hsz (j := 0) (t := 9) rfl rfl; rw [size_list] at this; exact this
  obtain ⟨t, rfl, rfl, rfl, hl_t⟩ := Go.ChangeMaps.open_string Try.underlying9 (hval 1 9 v1 rfl rfl) h1
  have hz_t : t.size ≤ 140737488351232 := by have := sized_string hsz (j := 1) (t := 9) rfl rfl; rw [size_list] at this; exact this
  obtain ⟨what, rfl, rfl, rfl, wf_what⟩ := open_int Try.underlying3 (hval 2 3 v2 rfl rfl) h2
  have h_what := int_range wf_what
  refine (ends_ok s t what m W hz_s hz_t h_what hm).mono fun e W' ⟨he, hb⟩ => ?_
  subst he
  exact ⟨_, rfl, law_shut laidOut (by kernel_rfl) (by kernel_rfl) Try.underlying4 rfl hW' rfl hb⟩

theorem ends_holds : Rows.ScanEndsSaid :=
  OpenClaim.holds_of_wide 4 Try.f4 rfl rfl rfl rfl rfl rfl rfl ⟨rfl, rfl, rfl, rfl, rfl⟩ rfl rfl rfl rfl rfl (by kernel_rfl) Try.func4 (by kernel_rfl)
    (of_decide_eq_true (by kernel_rfl)) (by unfold Func.isWrapper; rw [if_neg (of_decide_eq_false (by kernel_rfl))]; exact ⟨rfl, rfl⟩)
    (fun os started H enc _ => ends_lifted os started H enc)
end Go.Proofs.Ytckimeikiakfcaa
