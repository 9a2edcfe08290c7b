/- The reader: numbers. -/
import Derived.Test.YtfdffiphlpeegaaDoorDM
import Derived.Lib.QuoteBits
import Derived.Lib.ConvBytes
import Derived.Lib.SmallJoins
namespace Go.Proofs.YtfdffiphlpeegaaDoor
open Go.RowKit Go.Lib Go.WideShapes

theorem info_i64 : (Tryd.prog.info? 3).map (fun i => (i.zero, i.size, i.bytes)) = some (some (.int .i64 0), 1, 8) := by kernel_rfl

set_option maxHeartbeats 4000000 in
theorem keep_any (w0 w : World) (s : RS) (n : Int) (hr : s.N.length ≤ 1000000) (h : IsD w0 w s) :
    Calls Tryd.prog 38 #[.pointer (some ⟨w0.heap.size, 0, none⟩), .int .i64 n] w (DOut w0 (some (rKeep n s))) := by
  obtain ⟨i0, hi, y0, y1, y2⟩ := info_parts info_i64
  obtain ⟨tv, nv, hW⟩ := h
  obtain ⟨a, c, rfl⟩ := ownsRow_form hW.nums
  have c2 := hW.c2
  have f2 := hW.f2
  have hz := hW.lt
  have HW := Lib.hid hW
  clear hW
  go_enter Tryd.func38, Tryd.ntmps38
  go_wp2_with (at_builtin; refine wpList_append_at _ rfl (.tmp 8) (.tmp 10) 26 rfl (w0.heap.size + 1) 3 i0 (.int .i64 0) 1 8 Tryd.underlying26 hi y0 y1 y2 rfl (by decide) (.slice a s.N.length c) s.N.length (ncells s.N) rfl (HW.out.nums.alloc _) ⟨w.heap.size, 0, none⟩ 1 1 [.int .i64 n] rfl rfl (fun j u h => by rw [add_plain, Nat.zero_add, ← h]; exact (World.cell?_alloc_new w _ _ j).trans (by simp)) (by intro u hu; simp at hu; rcases hu with rfl; rfl) (by unfold maxLen; omega) (by omega) (by simp; omega) ?_)
  intro v' w1 hO hg _
  obtain ⟨a', c', rfl⟩ := ownsRow_form hO
  have HB := Lib.hid (HW.out.grewN hg)
  obtain ⟨⟨e2, g2⟩, _, hz1⟩ := HW.out.afterN HB.out
  have HP := Lib.hid (HW.out.put2 (N := s.N ++ [n]) HB.out (HW.out.rowT hg) (by rw [ncells_append, List.length_append]; exact hO))
  clear hO hg c2 f2
  go_wp2_with fail
  go_end0
  exact .inl ⟨_, rfl, rfl, _, _, HP.out⟩

theorem or_byte (n : Nat) (b : UInt8) (h : n < 16777216) : bits .or .i64 ((n : Int) * 256) (b.toNat : Nat) = ((n * 256 + b.toNat : Nat) : Int) := by
  have hb : b.toNat < 256 := UInt8.toNat_lt b
  have hk : ∀ n : Int, 0 ≤ n → n < 2 ^ 62 → IntKind.i64.wrap n = n := by
    intro n h0 h1
    obtain ⟨m, rfl⟩ := Int.eq_ofNat_of_zero_le h0
    exact wrap_i64_small m (by omega)
  rw [bits_join .i64 62 (by decide) hk 8 ((n : Int) * 256) (b.toNat : Nat) (by omega) (by omega) (by omega) (by omega) (by omega) (by omega)]
  omega
theorem conv_to (w : World) (s : ByteArray) : ∃ W c, (convert 9 69 (.string s)).run Tryd.prog w = .ok (.slice (some ⟨w.heap.size, 0, none⟩) s.size c) W ∧ (∀ j (hj : j < s.size), W.cell? ⟨w.heap.size, j, none⟩ = some (.int .u8 (s[j].toNat : Nat))) ∧ Below w.heap.size w W := by
  refine ⟨_, _, Lib.run_convert_string_bytes w 9 69 5 s Tryd.underlying9 Tryd.underlying69 Tryd.underlying5, ?_, Joins.below_bytesWorld _ _ _ _ (Nat.le_refl _)⟩
  intro j hj
  rw [Lib.bytesWorld_cell w 5 s j hj]
  have : s.data.toList.getD j 0 = s[j] := by
    rw [List.getD_eq_getElem?_getD, List.getElem?_eq_getElem (by simpa using hj)]; rfl
  rw [this]

set_option maxRecDepth 100000 in
set_option maxHeartbeats 8000000 in
theorem unsigned_any (w0 w : World) (s : RS) (k : Nat) (hk : 1 ≤ k ∧ k ≤ 4) (hl : s.S.length ≤ 1000000) (h : IsD w0 w s) :
    Calls Tryd.prog 39 #[.pointer (some ⟨w0.heap.size, 0, none⟩), .int .i64 k] w (DOutN w0 (rUnsigned k s)) := by
  have HT := Lib.hid (take_any w0 w s k hl h)
  obtain ⟨hk1, hk4⟩ := hk
  unfold rUnsigned
  have HTO := Lib.hid (fun b s' => take_out (k := k) (s := s) (b := b) (s' := s'))
  generalize rTake k s = R at HT HTO ⊢
  clear h hl
  go_enter Tryd.func39, Tryd.ntmps39
  go_wp2_with fail
  refine HT.out.mono ?_; rintro e w1 (⟨b, s1, rfl, rfl, hI⟩ | ⟨rfl, rfl, hB⟩)
  · have hbl := (HTO.out b s1 rfl).2.1
    obtain ⟨bb, hbb⟩ : ∃ bb : ByteArray, bb = ⟨b.toArray⟩ := ⟨_, rfl⟩
    have hbz : bb.size = k := by rw [hbb, bsize]; exact hbl
    have HBB := Lib.hid (show bytes bb = b by rw [hbb])
    have HI := Lib.hid hI
    have h0 : 0 < bb.size := by omega
    have hb4 : bb.size ≤ 4 := by omega
    rw [← hbb]
    have HBZ := Lib.hid hbz
    clear hbb hbl hI hbz
    obtain ⟨W, cap, hcv, hcell, hWB⟩ := conv_to w1 bb
    have HCELL := Lib.hid hcell
    have HI2 := Lib.hid (show IsD w0 W s1 from by obtain ⟨tv, nv, hD⟩ := HI.out; exact ⟨tv, nv, hD.grow hWB⟩)
    have HBLT := Lib.hid (show ∀ j, unsig (b.take j) < 256 ^ j from fun j => Nat.lt_of_lt_of_le (unsig_lt _) (Nat.pow_le_pow_right (by decide) (List.length_take_le _ _)))
    clear hcell hWB
    go_wp2_with fail
    go_loopw [5, 13] (fun n i wx => ∃ j : Nat, j ≤ bb.size ∧ i = .int .i64 j ∧ n = .int .i64 (unsig (b.take j) : Nat) ∧ wx = W) (fun _ i _ => bb.size - (RowKit.intOf i).toNat)
    case atStart => exact ⟨0, Nat.zero_le _, rfl, rfl, rfl⟩
    case round =>
      obtain ⟨j, hj, rfl, rfl, hwr⟩ := hrel
      subst hwr
      clear hcv
      by_cases hlt : j < bb.size
      · have hlt' : (j : Int) < bb.size := by omega
        have d0 := HCELL.out j hlt
        have hjb : j < b.length := by rw [← HBB.out, blen]; exact hlt
        have hg : b[j] = bb[j] := by
          have : (bytes bb)[j]'(by rw [blen]; exact hlt) = bb[j] := rfl
          simp only [HBB.out] at this
          exact this
        have HN := Lib.hid (show unsig (b.take (j + 1)) = unsig (b.take j) * 256 + bb[j].toNat from by
          rw [List.take_succ_eq_append_getElem hjb, unsig_snoc, hg])
        have hu : unsig (b.take j) < 16777216 := by
          have h1 := HBLT.out j
          have h2 : 256 ^ j ≤ 256 ^ 3 := Nat.pow_le_pow_right (by decide) (by have := HBZ.out; omega)
          exact Nat.lt_of_lt_of_le h1 h2
        have hor := or_byte (unsig (b.take j)) bb[j] hu
        generalize unsig (b.take j) = u at hu hor HN ⊢
        have hbt : bb[j].toNat < 256 := UInt8.toNat_lt _
        generalize bb[j].toNat = v at d0 hor HN hbt
        have hu' : (u : Int) * 256 ≤ 9223372036854775807 := by omega
        clear hjb hg
        go_wp2_with fail
        go_roundw
        case measure => first | omega | (simp [RowKit.intOf]; omega)
        case rel => exact ⟨j + 1, by omega, by go_num, by rw [HN.out]; exact congrArg (Value.int .i64) (by omega), by trivial⟩
      · have hjz : j = bb.size := by omega
        have HF := Lib.hid (show b.take j = b by rw [hjz, ← blen, HBB.out, List.take_length])
        clear hjz
        go_wp2_with fail
        go_ret
        refine .inl ⟨_, s1, rfl, by rw [HF.out]; rfl, HI2.out⟩
  · go_wp2_with fail
    exact ⟨rfl, .inr ⟨rfl, rfl, hB⟩⟩

theorem IsD.drew {w0 w : World} {s : RS} (h : IsD w0 w s) : IsD w0 w.drew s := by
  obtain ⟨tv, nv, h⟩ := h
  exact ⟨tv, nv, h.drew⟩
set_option maxHeartbeats 4000000 in
theorem signed_two (w0 w : World) (s : RS) (hl : s.S.length ≤ 1000000) (h : IsD w0 w s) :
    Calls Tryd.prog 36 #[.pointer (some ⟨w0.heap.size, 0, none⟩), .int .i64 2] w (DOutN w0 (rSigned 2 s)) := by
  have HU := Lib.hid (fun w (h : IsD w0 w s) => unsigned_any w0 w s 2 (by decide) hl h)
  have HRS := Lib.hid (show rSigned 2 s = (rUnsigned 2 s).map fun p => (sgn 2 p.1, p.2) by unfold rSigned rUnsigned; cases rTake 2 s <;> rfl)
  have HUL := Lib.hid (show ∀ n s', rUnsigned 2 s = some (n, s') → 0 ≤ n ∧ n < 65536 from by
    intro n s' e
    unfold rUnsigned at e
    cases hx : rTake 2 s with
    | none => rw [hx] at e; cases e
    | some p =>
      obtain ⟨b, s1⟩ := p
      rw [hx] at e
      simp only [Option.map_some, Option.some.injEq, Prod.mk.injEq] at e
      have hb := unsig_lt b
      rw [(take_out hx).2.1] at hb
      have hb' : unsig b < 65536 := hb
      omega)
  have H := Lib.hid h
  generalize rUnsigned 2 s = R at HU HRS HUL
  clear h hl
  rw [HRS.out]
  cases R with
  | none =>
    have hw : IntKind.i64.wrap 16 = 16 := rfl
    have hw2 : IntKind.i64.wrap 65536 = 65536 := rfl
    go_enter Tryd.func36, Tryd.ntmps36
    go_upto_region 1 with (fail)
    go_region_with ((go_at_call 39; refine (HU.out _ H.out.drew).mono ?_; rintro e w1 (⟨_, _, h, _⟩ | ⟨_, rfl, hB⟩); (cases h); (refine (fun (_ : wpAny Tryd.prog .any #[] (fun _ _ _ => True) 0 #[] { tmps := #[], defers := [] } w1) => ⟨rfl, .inr ⟨rfl, rfl, hB⟩⟩) ?_)))
    all_goals trivial
  | some p =>
    obtain ⟨n, s1⟩ := p
    have hw : IntKind.i64.wrap 16 = 16 := rfl
    have hw2 : IntKind.i64.wrap 65536 = 65536 := rfl
    go_enter Tryd.func36, Tryd.ntmps36
    go_upto_region 1 with (fail)
    go_region_with ((go_at_call 39; refine (HU.out _ H.out.drew).mono ?_; rintro e w1 (⟨_, _, h, rfl, hI⟩ | ⟨h, _, _⟩); (obtain ⟨rfl, rfl⟩ := Prod.mk.inj (Option.some.inj h))))
    have HUL := Lib.hid (HUL.out n s1 rfl)
    all_goals
      have hI2 := Lib.hid hI
      clear hI
      by_cases hc : 32768 ≤ n
      · have HSG := Lib.hid (show sgn 2 n = n - 65536 from if_pos hc)
        have h1 := HUL.out.2
        go_wp2_with fail
        go_ret
        exact .inl ⟨_, _, rfl, by rw [HSG.out]; rfl, hI2.out⟩
      · have HSG := Lib.hid (show sgn 2 n = n from if_neg hc)
        go_wp2_with fail
        go_ret
        exact .inl ⟨_, _, rfl, by rw [HSG.out]; rfl, hI2.out⟩
set_option maxHeartbeats 4000000 in
theorem signed_four (w0 w : World) (s : RS) (hl : s.S.length ≤ 1000000) (h : IsD w0 w s) :
    Calls Tryd.prog 36 #[.pointer (some ⟨w0.heap.size, 0, none⟩), .int .i64 4] w (DOutN w0 (rSigned 4 s)) := by
  have HU := Lib.hid (fun w (h : IsD w0 w s) => unsigned_any w0 w s 4 (by decide) hl h)
  have HRS := Lib.hid (show rSigned 4 s = (rUnsigned 4 s).map fun p => (sgn 4 p.1, p.2) by unfold rSigned rUnsigned; cases rTake 4 s <;> rfl)
  have HUL := Lib.hid (show ∀ n s', rUnsigned 4 s = some (n, s') → 0 ≤ n ∧ n < 4294967296 from by
    intro n s' e
    unfold rUnsigned at e
    cases hx : rTake 4 s with
    | none => rw [hx] at e; cases e
    | some p =>
      obtain ⟨b, s1⟩ := p
      rw [hx] at e
      simp only [Option.map_some, Option.some.injEq, Prod.mk.injEq] at e
      have hb := unsig_lt b
      rw [(take_out hx).2.1] at hb
      have hb' : unsig b < 4294967296 := hb
      omega)
  have H := Lib.hid h
  generalize rUnsigned 4 s = R at HU HRS HUL
  clear h hl
  rw [HRS.out]
  cases R with
  | none =>
    have hw : IntKind.i64.wrap 32 = 32 := rfl
    have hw2 : IntKind.i64.wrap 4294967296 = 4294967296 := rfl
    go_enter Tryd.func36, Tryd.ntmps36
    go_upto_region 1 with (fail)
    go_region_with ((go_at_call 39; refine (HU.out _ H.out.drew).mono ?_; rintro e w1 (⟨_, _, h, _⟩ | ⟨_, rfl, hB⟩); (cases h); (refine (fun (_ : wpAny Tryd.prog .any #[] (fun _ _ _ => True) 0 #[] { tmps := #[], defers := [] } w1) => ⟨rfl, .inr ⟨rfl, rfl, hB⟩⟩) ?_)))
    all_goals trivial
  | some p =>
    obtain ⟨n, s1⟩ := p
    have hw : IntKind.i64.wrap 32 = 32 := rfl
    have hw2 : IntKind.i64.wrap 4294967296 = 4294967296 := rfl
    go_enter Tryd.func36, Tryd.ntmps36
    go_upto_region 1 with (fail)
    go_region_with ((go_at_call 39; refine (HU.out _ H.out.drew).mono ?_; rintro e w1 (⟨_, _, h, rfl, hI⟩ | ⟨h, _, _⟩); (obtain ⟨rfl, rfl⟩ := Prod.mk.inj (Option.some.inj h))))
    have HUL := Lib.hid (HUL.out n s1 rfl)
    all_goals
      have hI2 := Lib.hid hI
      clear hI
      by_cases hc : 2147483648 ≤ n
      · have HSG := Lib.hid (show sgn 4 n = n - 4294967296 from if_pos hc)
        have h1 := HUL.out.2
        go_wp2_with fail
        go_ret
        exact .inl ⟨_, _, rfl, by rw [HSG.out]; rfl, hI2.out⟩
      · have HSG := Lib.hid (show sgn 4 n = n from if_neg hc)
        go_wp2_with fail
        go_ret
        exact .inl ⟨_, _, rfl, by rw [HSG.out]; rfl, hI2.out⟩
end Go.Proofs.YtfdffiphlpeegaaDoor
