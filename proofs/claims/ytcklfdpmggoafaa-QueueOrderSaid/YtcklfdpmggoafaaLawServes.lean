/- Any ids: QueueServes answers true, and leaves what was there as it was. -/
import Derived.Test.YtcklfdpmggoafaaQW
import Derived.ChangeSlices
import Derived.OpenShut
namespace Go.Proofs.Ytcklfdpmggoafaa
open Go.RowKit Go.Lib Go.WideShapes Go.ChangeShapes Go.ChangeAt Go.Joins

/-- The integers that lie from place off of block b on. -/
def IntsAt (w : World) (b off n : Nat) (c : Nat → Int) : Prop := ∀ i, i < n → w.cell? ⟨b, off + i, none⟩ = some (.int .i64 (c i))

/-- Those of xs, all since nought. -/
def since0 (xs : List Int) : Waits := xs.map fun x => (x, 0)
theorem since0_ids (xs : List Int) : (since0 xs).map (·.1) = xs := by simp [since0, Function.comp_def]
theorem since0_length (xs : List Int) : (since0 xs).length = xs.length := by simp [since0]
theorem since0_snoc (xs : List Int) (x : Int) : since0 (xs ++ [x]) = since0 xs ++ [(x, 0)] := by simp [since0]
theorem since0_drop (xs : List Int) (i : Nat) : since0 (xs.drop i) = (since0 xs).drop i := by simp [since0, List.map_drop]
theorem since0_look (xs : List Int) (x : Int) : look (since0 xs) x = none ↔ x ∉ xs := by rw [look_none, since0_ids]

theorem serve_out {xs : List Int} (hn : xs.Nodup) {i : Nat} (hi : i < xs.length) : (since0 (xs.drop i)).filter (fun q => !decide (q.1 = xs[i])) = since0 (xs.drop (i + 1)) := by
  have h2 : ((since0 (xs.drop i)).map (·.1)).Nodup := by rw [since0_ids]; exact hn.sublist (List.drop_sublist _ _)
  rw [List.drop_eq_getElem_cons hi] at h2 ⊢
  exact del_front (R := []) (q := (xs[i], 0)) h2

theorem nodup_ne {xs : List Int} (hn : xs.Nodup) {i k : Nat} (hi : i < xs.length) (hk : k < i) : xs[k] ≠ xs[i] :=
  List.pairwise_iff_getElem.1 hn k i (by omega) hi hk

theorem own_cell {w : World} {base cap : Nat} {a : Option Addr} {xs : List Int} (h : w.ownsRow base 3 1 (.slice a xs.length cap) xs.length (intCells xs)) (h0 : 0 < xs.length) : ∃ g, a = some ⟨g, 0, none⟩ ∧ g < w.heap.size ∧ ∀ k (hk : k < xs.length), w.cell? ⟨g, k, none⟩ = some (.int .i64 xs[k]) := by
  rcases h.2 with ⟨_, hz⟩ | ⟨g, c, cur, hv, _⟩
  · omega
  · simp only [Value.slice.injEq] at hv
    obtain ⟨rfl, _, rfl⟩ := hv
    exact ⟨g, rfl, (h.lt g rfl).2, fun k hk => (h.cellAt k (by omega)).trans (intCells_at xs k hk)⟩

set_option maxRecDepth 100000 in
set_option maxHeartbeats 8000000 in
theorem serves_walk (l0 : Option Addr) (len cap : Nat) (c : Nat → Int) (w : World) (hlen : len ≤ 200) (hC : len = 0 ∨ ∃ b off, l0 = some ⟨b, off, none⟩ ∧ b < w.heap.size ∧ IntsAt w b off len c) (hcr : ∀ i, i < len → -9223372036854775808 ≤ c i ∧ c i ≤ 9223372036854775807) :
    Calls Try.prog 7 #[.slice l0 len cap] w fun e w' => e = .returned (.bool true) ∧ Below w.heap.size w w' := by
  obtain ⟨i0, hi, y0, y1, y2⟩ := info_parts Try.info3
  have HC := Lib.hid hC; have HCR := Lib.hid hcr
  clear hC hcr
  go_enter Try.func7, Try.ntmps7
  go_wp2_with fail
  refine (shown_true _).mono ?_; rintro e w1 ⟨rfl, hb1⟩
  have hz1 := hb1.size
  have HB1 := Lib.hid hb1
  clear hb1
  go_wp2_with fail
  refine (qe_new 1000 w1 (by omega)).mono ?_; rintro e w2 ⟨rfl, hq2⟩
  have HQ2 := Lib.hid hq2.qw
  clear hq2
  go_wp2_with fail
  go_loopw [6, 7] (fun v i wr => ∃ (k : Nat) (xs : List Int), k ≤ len ∧ i = .int .i64 k ∧ xs.length ≤ k ∧ xs.Nodup ∧ (∀ x ∈ xs, -9223372036854775808 ≤ x ∧ x ≤ 9223372036854775807) ∧ QW w1 wr (w1.heap.size + 1) w1.heap.size 1000 (since0 xs) k v xs) (fun _ i _ => len - (intOf i).toNat)
  case atStart => exact ⟨0, [], Nat.zero_le _, rfl, Nat.le_refl _, List.nodup_nil, by simp, HQ2.out⟩
  case round =>
    obtain ⟨k, xs, hk, rfl, hxk, hnd, hxr, hQ⟩ := hrel
    have HQ := Lib.hid hQ; have HND := Lib.hid hnd; have HXR := Lib.hid hxr
    clear hQ HQ2 hnd hxr
    by_cases hlt : k < len
    · obtain ⟨b, off, hl0, hb, hCC⟩ : ∃ b off, l0 = some ⟨b, off, none⟩ ∧ b < w.heap.size ∧ IntsAt w b off len c := HC.out.elim (fun h => by omega) id
      subst hl0
      have hck := hCC k hlt
      have hcr := HCR.out k hlt
      obtain ⟨x, hx⟩ : ∃ x, x = c k := ⟨_, rfl⟩
      rw [← hx] at hck hcr
      have HX := Lib.hid hcr
      have d0 : wr.cell? ⟨b, off + k, none⟩ = some (.int .i64 x) := ((HB1.out.step HQ.out.qe.below hz1).cell (p := ⟨b, off + k, none⟩) hb).trans hck
      have HCK := Lib.hid hck
      clear hCC hx hck hcr
      have hlt' : (k : Int) < len := by omega
      by_cases hmem : x ∈ xs
      · have hlk : (look (since0 xs) x).isSome = true := by
          cases hl : look (since0 xs) x with
          | some t => rfl
          | none => exact absurd hmem ((since0_look xs x).1 hl)
        have HLK := Lib.hid hlk
        clear hlk hmem
        go_wp2_with fail
        refine (qw_of HQ.out fun o ho => join_state _ _ o _ _ _ x 0 _ ho HX.out HLK.out).mono ?_; rintro e w3 ⟨rfl, hQ3⟩
        have HQ3 := Lib.hid hQ3
        clear hQ3 HQ
        go_wp2_with fail
        go_roundw
        case rel =>
          obtain ⟨o, h1, h2, h3, h4, h5⟩ := HQ3.out
          exact ⟨k + 1, xs, by omega, by go_num, by omega, HND.out, HXR.out, o, h1.more (by omega), h2, h3, h4, h5⟩
        case measure => simp [intOf]; omega
      · have HLK := Lib.hid ((since0_look xs x).2 hmem)
        have HME := Lib.hid hmem
        clear hmem
        go_wp2_with fail
        refine (qw_of HQ.out fun o ho => join_ok _ _ o _ _ _ x 0 _ ho HX.out (by omega) HLK.out (by rw [since0_length]; omega) (by omega)).mono ?_; rintro e w3 ⟨rfl, hQ3⟩
        rw [← since0_snoc] at hQ3
        have HQ3 := Lib.hid hQ3
        have d1 : w3.cell? ⟨b, off + k, none⟩ = some (.int .i64 x) := ((HB1.out.step hQ3.qe.below hz1).cell (p := ⟨b, off + k, none⟩) hb).trans HCK.out
        have hz3 : w1.heap.size ≤ w3.heap.size := hQ3.qe.below.size
        have hrow := hQ3.row
        obtain ⟨va, vc, rfl⟩ := ownsRow_form hrow
        have HROW := Lib.hid hrow
        clear hQ3 HQ hrow d0
        go_wp2_with (at_builtin; refine wpList_append_at _ rfl (.tmp 48) (.tmp 53) 37 rfl w1.heap.size 3 i0 (.int .i64 0) 1 8 Try.underlying37 hi y0 y1 y2 rfl (by decide) (.slice va xs.length vc) xs.length (intCells xs) rfl (HROW.out.alloc _) ⟨w3.heap.size, 0, none⟩ 1 1 [.int .i64 x] rfl rfl ?g1 ?g2 ?g3 ?g4 ?g5 ?_)
        case g1 => intro j u h; rw [add_plain, Nat.zero_add, ← h]; exact (World.cell?_alloc_new w3 _ _ j).trans (by simp)
        case g2 => intro u hu; simp at hu; rcases hu with rfl; rfl
        case g3 => unfold maxLen; omega
        case g4 => omega
        case g5 => simp; omega
        intro v' w4 hO4 hg4 hnew
        have HQ4 := Lib.hid (HQ3.out.put hO4 hg4 (fun k hk => (hnew k hk).imp_right (fun h => by rw [World.size_alloc]; exact h)))
        clear hO4 hg4 hnew HQ3 HROW d1
        go_wp2_with fail
        go_roundw
        case rel => exact ⟨k + 1, xs ++ [x], by omega, by go_num, by simp; omega, List.nodup_append.2 ⟨HND.out, by simp, fun a ha b hb e => HME.out (by simp at hb; rw [← hb, ← e]; exact ha)⟩, (by intro z hz; rcases List.mem_append.1 hz with hz | hz; exact HXR.out z hz; simp at hz; subst hz; exact HX.out), HQ4.out⟩
        case measure => simp [intOf]; omega
    · obtain rfl : k = len := by omega
      have hrow := HQ.out.row
      obtain ⟨va, vc, rfl⟩ := ownsRow_form hrow
      clear hrow
      go_wp2_with fail
      clear HC HCR
      go_loopw [8, 8] (fun i _ wq => ∃ j : Nat, j ≤ xs.length ∧ i = .int .i64 j ∧ QW w1 wq (w1.heap.size + 1) w1.heap.size 1000 (since0 (xs.drop j)) k (.slice va xs.length vc) xs) (fun i _ _ => xs.length - (intOf i).toNat)
      case atStart => exact ⟨0, Nat.zero_le _, rfl, HQ.out⟩
      case round =>
        obtain ⟨j, hj, rfl, hQ⟩ := hrel
        have HQ4 := Lib.hid hQ
        clear hQ HQ
        by_cases hjl : j < xs.length
        · have HD := Lib.hid (show since0 (xs.drop j) = (xs[j], 0) :: since0 (xs.drop (j + 1)) by rw [List.drop_eq_getElem_cons hjl]; rfl)
          have HSV := Lib.hid (serve_out HND.out hjl)
          have HNE := Lib.hid (fun m (hm : m < j) => nodup_ne HND.out hjl hm)
          obtain ⟨z, hz⟩ : ∃ z, z = xs[j] := ⟨_, rfl⟩
          have hzr := HXR.out z (by rw [hz]; exact List.getElem_mem hjl)
          rw [← hz] at HD HSV HNE
          have HZ := Lib.hid hz; have HZR := Lib.hid hzr
          clear hz hzr
          have hlk : (look (since0 (xs.drop j)) z).isSome = true := by rw [HD.out, look_cons, if_pos rfl]; rfl
          have HLK := Lib.hid hlk
          clear hlk
          go_wp2_with fail
          refine (qw_of HQ4.out fun o ho => (first_some _ _ o _ (z, 0) (since0 (xs.drop (j + 1))) _ _ (HD.out ▸ ho)).mono fun e w' hh => ⟨hh.1, o, hh.2 ▸ ho, hh.2 ▸ Kept.refl _ _⟩).mono ?_; rintro e w5 ⟨rfl, hQ5⟩
          have HQ5 := Lib.hid hQ5
          obtain ⟨g, hva, hgz, hcells⟩ := own_cell hQ5.row (by omega)
          subst hva
          have HCL := Lib.hid hcells
          clear hQ5 HQ4 hcells
          go_wp2_with fail
          go_loop [11, 11] (fun m _ => ∃ m' : Nat, m' ≤ j ∧ m = .int .i64 m') (fun m _ => j - (intOf m).toNat)
          case atStart => exact ⟨0, Nat.zero_le _, rfl⟩
          case round =>
            obtain ⟨m', hm', rfl⟩ := hrel
            by_cases hml : m' < j
            · have d2 := HCL.out m' (by omega)
              have hne := HNE.out m' hml
              obtain ⟨y, hy⟩ : ∃ y, y = xs[m']'(by omega) := ⟨_, rfl⟩
              rw [← hy] at d2 hne
              have hb3 : (y == z) = false := by simpa using hne
              clear hy
              have hml2 : (m' : Int) < xs.length := by omega
              go_wp2_with fail
              go_round
              case rel => exact ⟨m' + 1, by omega, by go_num⟩
              case measure => simp [intOf]; omega
            · obtain rfl : m' = j := by omega
              have d3 := HCL.out m' hjl
              rw [← HZ.out] at d3
              have hjl2 : (m' : Int) < xs.length := by omega
              go_wp2_with fail
              refine (qw_of HQ5.out fun o ho => leave_yes _ _ o _ _ _ z _ ho HZR.out HLK.out).mono ?_; rintro e w6 ⟨rfl, hQ6⟩
              rw [HSV.out] at hQ6
              have HQ6 := Lib.hid hQ6
              clear hQ6 HQ5 d3
              go_wp2_with fail
              go_roundw
              case rel => exact ⟨m' + 1, by omega, by go_num, HQ6.out⟩
              case measure => simp [intOf]; omega
        · obtain rfl : j = xs.length := by omega
          have hQ5 := HQ4.out.qe
          rw [List.drop_length] at hQ5
          have HQ5 := Lib.hid hQ5
          clear hQ5 HQ4
          go_wp2_with fail
          refine (qe_first_none HQ5.out rfl).mono ?_; rintro e w6 ⟨rfl, hQ6⟩
          have HQ6 := Lib.hid hQ6
          clear hQ6 HQ5
          go_wp2_with fail
          refine (qe_list HQ6.out).mono ?_; rintro e w7 ⟨u, rfl, hU, hQ7, _⟩
          obtain ⟨ua, uc, rfl⟩ := hU.form
          have HQ7 := Lib.hid hQ7
          clear hU hQ7 HQ6
          go_wp2_with fail
          refine (qe_leave_no HQ7.out 0 rfl).mono ?_; rintro e w8 ⟨rfl, hQ8⟩
          have HB8 := Lib.hid (HB1.out.step hQ8.below hz1)
          clear hQ8 HQ7
          go_wp2_with fail
          go_ret
          exact ⟨rfl, HB8.out⟩

theorem serves_early (l0 : Option Addr) (len cap : Nat) (w : World) (h : (200 : Int) < len) :
    Calls Try.prog 7 #[.slice l0 len cap] w fun e w' => e = .returned (.bool true) ∧ Below w.heap.size w w' := by
  go_enter Try.func7, Try.ntmps7
  go_wp2_with fail
  refine (shown_true _).mono ?_; rintro e w1 ⟨rfl, hb1⟩
  have hz1 := hb1.size
  have HB1 := Lib.hid hb1
  clear hb1
  go_wp2_with fail
  refine (qe_new 1000 w1 (by omega)).mono ?_; rintro e w2 ⟨rfl, hq2⟩
  have HB2 := Lib.hid (HB1.out.step hq2.below hz1)
  clear hq2
  go_wp2_with fail
  go_ret
  exact ⟨rfl, HB2.out⟩

theorem serves_ok (l0 : Option Addr) (len cap : Nat) (c : Nat → Int) (w : World) (hC : len = 0 ∨ ∃ b off, l0 = some ⟨b, off, none⟩ ∧ b < w.heap.size ∧ IntsAt w b off len c) (hcr : ∀ i, i < len → -9223372036854775808 ≤ c i ∧ c i ≤ 9223372036854775807) :
    Calls Try.prog 7 #[.slice l0 len cap] w fun e w' => e = .returned (.bool true) ∧ Below w.heap.size w w' := by
  by_cases h : len ≤ 200
  · exact serves_walk l0 len cap c w h hC hcr
  · exact serves_early l0 len cap w (by omega)

/-- An argument that is a slice of integers, opened to its cells. -/
theorem open_row {H : Type} {enc : TypeId × Value → H} {w : World} {a : Option Addr} {len cap : Nat} {d : DataW H} {p : List MemPlace} (h : DataW.Trod enc Try.prog w 0 (fun _ => true) true 37 (.slice a len cap) d p) :
    ∃ c : Nat → Int, (∀ i, i < len → -9223372036854775808 ≤ c i ∧ c i ≤ 9223372036854775807) ∧ (len = 0 ∨ ∃ b off, a = some ⟨b, off, none⟩ ∧ b < w.heap.size ∧ IntsAt w b off len c) := by
  obtain ⟨fuel, hf⟩ := h
  have hf' : DataW.trod enc Try.prog w 0 (fun _ => true) true fuel 37 [.slice a len cap] = some (d, p) := by simpa [Value.cells] using hf
  rcases open_ints Try.underlying37 Try.underlying3 (by kernel_rfl) hf' with ⟨h0, _⟩ | ⟨a', len', cap', zs, hcs, _, hl, _, hz, _, hcell, hw⟩
  · refine ⟨fun _ => 0, fun _ _ => by simp, .inl ?_⟩
    simp at h0; exact h0.2.1
  · simp only [List.cons.injEq, Value.slice.injEq, and_true] at hcs
    obtain ⟨rfl, rfl, rfl⟩ := hcs
    have hlz : len ≤ zs.length := by rw [hz]; simp; exact hl
    refine ⟨fun i => zs.getD i 0, fun i hi => int_range (hw _ ?_), ?_⟩
    · have e : zs.getD i 0 = zs[i]'(by omega) := by simp [List.getD, List.getElem?_eq_getElem (show i < zs.length by omega)]
      show zs.getD i 0 ∈ zs
      rw [e]; exact List.getElem_mem _
    · by_cases h0 : len = 0
      · exact .inl h0
      right
      obtain ⟨b, off, rfl, hc⟩ := ints_at hcell (by omega)
      exact ⟨b, off, rfl, World.block_lt_of_cell? w (⟨b, off + 0, none⟩ : Addr) (hc 0 (by omega)), fun i hi => hc i (by omega)⟩

set_option maxRecDepth 100000 in
theorem serves_lifted (os : Os) (started : os.Started) (H : Type) (enc : TypeId × Value → H) :
    ReturnsInHanded {} Try.checked os 7 .any (Rows.queueServesSpec.pre6 enc Try.prog Try.f7 Rows.queueServesRow.domain false) (Rows.queueServesSpec.post enc Try.prog Try.f7 false true false false) := by
  refine returnsInHanded_of_change (C := Try.checked) own started (by kernel_rfl) Try.func7
    (ChangeSpec.witness6 (enc := enc) (C := Try.checked) false ⟨#[], #[.slice none 0 0], []⟩ 8 (by kernel_rfl) (by kernel_rfl) (by kernel_rfl) (by kernel_rfl)) ?_
  intro W base args ds gs before hval0 hW _ _
  have hval : ∀ (j : Nat) t v, Try.f7.params[j]? = some t → args[j]? = some v → Value.okWide Try.prog W .any base t v := hval0
  have hW' := hW
  obtain ⟨p, q, hA0, hV, rfl, _, _⟩ := hW
  have hA : DataW.TrodAll enc Try.prog W 0 (fun _ => true) true Try.f7.params.toList args.toList ds p := hA0
  rw [Try.params7] at hA hval
  obtain ⟨v0, d0, rfl, rfl, h0⟩ := trodAll_one hA
  obtain ⟨rfl, rfl⟩ := trodVars_none hV
  obtain ⟨a0, len, cap, rfl⟩ := okWide_slice Try.underlying37 (hval 0 37 v0 rfl rfl)
  obtain ⟨c, hcr, hC⟩ := open_row h0
  refine (serves_ok a0 len cap c W hC hcr).mono fun e W' ⟨he, hb⟩ => ?_
  subst he
  exact ⟨_, rfl, law_shut laidOut (by kernel_rfl) (by kernel_rfl) Try.underlying4 rfl hW' rfl hb⟩

theorem serves_holds : Rows.QueueServesSaid :=
  OpenClaim.holds_of_wide 7 Try.f7 rfl rfl rfl rfl rfl rfl rfl ⟨rfl, rfl, rfl, rfl, rfl⟩ rfl rfl rfl rfl rfl (by kernel_rfl) Try.func7 (by kernel_rfl)
    (of_decide_eq_true (by kernel_rfl)) (by unfold Func.isWrapper; rw [if_neg (of_decide_eq_false (by kernel_rfl))]; exact ⟨rfl, rfl⟩)
    (fun os started H enc _ => serves_lifted os started H enc)
end Go.Proofs.Ytcklfdpmggoafaa
