/- Contracts and mathematics: DK, QM, QR. -/
import Derived.Test.YtfdffiphlpeegaaDoorZ8
import Derived.Lib.QuoteBits
import Derived.Lib.ConvBytes
import Derived.Lib.SmallJoins
namespace Go.Proofs.YtfdffiphlpeegaaDoor
open Go.RowKit Go.Lib Go.WideShapes

theorem info_i64 : (Tryd.prog.info? 3).map (fun i => (i.zero, i.size, i.bytes)) = some (some (.int .i64 0), 1, 8) := by kernel_rfl

set_option maxRecDepth 100000 in
set_option maxHeartbeats 4000000 in
theorem keep_any (w0 w : World) (s : RS) (n : Int) (hr : s.N.length ≤ 1000000) (h : IsD w0 w s) :
    Calls Tryd.prog 38 #[.pointer (some ⟨w0.heap.size, 0, none⟩), .int .i64 n] w (DOut w0 (some (rKeep n s))) := by
  obtain ⟨i0, hi, y0, y1, y2⟩ := info_parts info_i64
  obtain ⟨tv, nv, hW⟩ := h
  obtain ⟨a, c, rfl⟩ := ownsRow_form hW.nums
  have c2 := hW.c2
  have f2 := hW.f2
  have hz := hW.lt
  have HW := Lib.hid hW
  clear hW
  go_enter Tryd.func38, Tryd.ntmps38
  go_wp2_with (at_builtin; refine wpList_append_at _ rfl (.tmp 8) (.tmp 10) 26 rfl (w0.heap.size + 1) 3 i0 (.int .i64 0) 1 8 Tryd.underlying26 hi y0 y1 y2 rfl (by decide) (.slice a s.N.length c) s.N.length (ncells s.N) rfl (HW.out.nums.alloc _) ⟨w.heap.size, 0, none⟩ 1 1 [.int .i64 n] rfl rfl (fun j u h => by rw [Go.WideShapes.add_plain, Nat.zero_add, ← h]; exact (World.cell?_alloc_new w _ _ j).trans (by simp)) (by intro u hu; simp at hu; rcases hu with rfl; rfl) (by unfold maxLen; omega) (by omega) (by simp; omega) ?_)
  intro v' w1 hO hg _
  obtain ⟨a', c', rfl⟩ := ownsRow_form hO
  have HB := Lib.hid (HW.out.grewN hg)
  obtain ⟨⟨e2, g2⟩, _, hz1⟩ := HW.out.afterN HB.out
  have HP := Lib.hid (HW.out.put2 (N := s.N ++ [n]) HB.out (HW.out.rowT hg) (by rw [ncells_append, List.length_append]; exact hO))
  clear hO hg c2 f2
  go_wp2_with fail
  go_end0
  exact .inl ⟨_, rfl, rfl, _, _, HP.out⟩

theorem or_byte (n : Nat) (b : UInt8) (h : n < 16777216) : bits .or .i64 ((n : Int) * 256) (b.toNat : Nat) = ((n * 256 + b.toNat : Nat) : Int) := by
  have hb : b.toNat < 256 := UInt8.toNat_lt b
  have hk : ∀ n : Int, 0 ≤ n → n < 2 ^ 62 → IntKind.i64.wrap n = n := by
    intro n h0 h1
    obtain ⟨m, rfl⟩ := Int.eq_ofNat_of_zero_le h0
    exact wrap_i64_small m (by omega)
  rw [bits_join .i64 62 (by decide) hk 8 ((n : Int) * 256) (b.toNat : Nat) (by omega) (by omega) (by omega) (by omega) (by omega) (by omega)]
  omega
theorem conv_to (w : World) (s : ByteArray) : ∃ W c, (convert 9 69 (.string s)).run Tryd.prog w = .ok (.slice (some ⟨w.heap.size, 0, none⟩) s.size c) W ∧ (∀ j (hj : j < s.size), W.cell? ⟨w.heap.size, j, none⟩ = some (.int .u8 (s[j].toNat : Nat))) ∧ Below w.heap.size w W := by
  refine ⟨_, _, Lib.run_convert_string_bytes w 9 69 5 s Tryd.underlying9 Tryd.underlying69 Tryd.underlying5, ?_, Joins.below_bytesWorld _ _ _ _ (Nat.le_refl _)⟩
  intro j hj
  rw [Lib.bytesWorld_cell w 5 s j hj]
  have : s.data.toList.getD j 0 = s[j] := by
    rw [List.getD_eq_getElem?_getD, List.getElem?_eq_getElem (by simpa using hj)]; rfl
  rw [this]

set_option maxRecDepth 100000 in
set_option maxHeartbeats 8000000 in
theorem unsigned_any (w0 w : World) (s : RS) (k : Nat) (hk : 1 ≤ k ∧ k ≤ 4) (hl : s.S.length ≤ 1000000) (h : IsD w0 w s) :
    Calls Tryd.prog 39 #[.pointer (some ⟨w0.heap.size, 0, none⟩), .int .i64 k] w (DOutN w0 (rUnsigned k s)) := by
  have HT := Lib.hid (take_any w0 w s k hl h)
  obtain ⟨hk1, hk4⟩ := hk
  unfold rUnsigned
  have HTO := Lib.hid (fun b s' => take_out (k := k) (s := s) (b := b) (s' := s'))
  generalize rTake k s = R at HT HTO ⊢
  clear h hl
  go_enter Tryd.func39, Tryd.ntmps39
  go_wp2_with fail
  refine HT.out.mono ?_; rintro e w1 (⟨b, s1, rfl, rfl, hI⟩ | ⟨rfl, rfl, hB⟩)
  · have hbl := (HTO.out b s1 rfl).2.1
    obtain ⟨bb, hbb⟩ : ∃ bb : ByteArray, bb = ⟨b.toArray⟩ := ⟨_, rfl⟩
    have hbz : bb.size = k := by rw [hbb, bsize]; exact hbl
    have HBB := Lib.hid (show bytes bb = b by rw [hbb])
    have HI := Lib.hid hI
    have h0 : 0 < bb.size := by omega
    have hb4 : bb.size ≤ 4 := by omega
    rw [← hbb]
    have HBZ := Lib.hid hbz
    clear hbb hbl hI hbz
    obtain ⟨W, cap, hcv, hcell, hWB⟩ := conv_to w1 bb
    have HCELL := Lib.hid hcell
    have HI2 := Lib.hid (show IsD w0 W s1 from by obtain ⟨tv, nv, hD⟩ := HI.out; exact ⟨tv, nv, hD.grow hWB⟩)
    have HBLT := Lib.hid (show ∀ j, unsig (b.take j) < 256 ^ j from fun j => Nat.lt_of_lt_of_le (unsig_lt _) (Nat.pow_le_pow_right (by decide) (List.length_take_le _ _)))
    clear hcell hWB
    go_wp2_with fail
    go_loopw [5, 13] (fun n i wx => ∃ j : Nat, j ≤ bb.size ∧ i = .int .i64 j ∧ n = .int .i64 (unsig (b.take j) : Nat) ∧ wx = W) (fun _ i _ => bb.size - (RowKit.intOf i).toNat)
    case atStart => exact ⟨0, Nat.zero_le _, rfl, rfl, rfl⟩
    case round =>
      obtain ⟨j, hj, rfl, rfl, hwr⟩ := hrel
      subst hwr
      clear hcv
      by_cases hlt : j < bb.size
      · have hlt' : (j : Int) < bb.size := by omega
        have d0 := HCELL.out j hlt
        have hjb : j < b.length := by rw [← HBB.out, blen]; exact hlt
        have hg : b[j] = bb[j] := by
          have : (bytes bb)[j]'(by rw [blen]; exact hlt) = bb[j] := rfl
          simp only [HBB.out] at this
          exact this
        have HN := Lib.hid (show unsig (b.take (j + 1)) = unsig (b.take j) * 256 + bb[j].toNat from by
          rw [List.take_succ_eq_append_getElem hjb, unsig_snoc, hg])
        have hu : unsig (b.take j) < 16777216 := by
          have h1 := HBLT.out j
          have h2 : 256 ^ j ≤ 256 ^ 3 := Nat.pow_le_pow_right (by decide) (by have := HBZ.out; omega)
          exact Nat.lt_of_lt_of_le h1 h2
        have hor := or_byte (unsig (b.take j)) bb[j] hu
        generalize unsig (b.take j) = u at hu hor HN ⊢
        have hbt : bb[j].toNat < 256 := UInt8.toNat_lt _
        generalize bb[j].toNat = v at d0 hor HN hbt
        have hu' : (u : Int) * 256 ≤ 9223372036854775807 := by omega
        clear hjb hg
        go_wp2_with fail
        go_roundw
        case measure => first | omega | (simp [RowKit.intOf]; omega)
        case rel => exact ⟨j + 1, by omega, by go_num, by rw [HN.out]; exact congrArg (Value.int .i64) (by omega), by trivial⟩
      · have hjz : j = bb.size := by omega
        have HF := Lib.hid (show b.take j = b by rw [hjz, ← blen, HBB.out, List.take_length])
        clear hjz
        go_wp2_with fail
        go_ret
        refine .inl ⟨_, s1, rfl, by rw [HF.out]; rfl, HI2.out⟩
  · go_wp2_with fail
    exact ⟨rfl, .inr ⟨rfl, rfl, hB⟩⟩

theorem IsD.drew {w0 w : World} {s : RS} (h : IsD w0 w s) : IsD w0 w.drew s := by
  obtain ⟨tv, nv, h⟩ := h
  exact ⟨tv, nv, h.drew⟩
set_option maxRecDepth 100000 in
set_option maxHeartbeats 4000000 in
theorem signed_two (w0 w : World) (s : RS) (hl : s.S.length ≤ 1000000) (h : IsD w0 w s) :
    Calls Tryd.prog 36 #[.pointer (some ⟨w0.heap.size, 0, none⟩), .int .i64 2] w (DOutN w0 (rSigned 2 s)) := by
  have HU := Lib.hid (fun w (h : IsD w0 w s) => unsigned_any w0 w s 2 (by decide) hl h)
  have HRS := Lib.hid (show rSigned 2 s = (rUnsigned 2 s).map fun p => (sgn 2 p.1, p.2) by unfold rSigned rUnsigned; cases rTake 2 s <;> rfl)
  have HUL := Lib.hid (show ∀ n s', rUnsigned 2 s = some (n, s') → 0 ≤ n ∧ n < 65536 from by
    intro n s' e
    unfold rUnsigned at e
    cases hx : rTake 2 s with
    | none => rw [hx] at e; cases e
    | some p =>
      obtain ⟨b, s1⟩ := p
      rw [hx] at e
      simp only [Option.map_some, Option.some.injEq, Prod.mk.injEq] at e
      have hb := unsig_lt b
      rw [(take_out hx).2.1] at hb
      have hb' : unsig b < 65536 := hb
      omega)
  have H := Lib.hid h
  generalize rUnsigned 2 s = R at HU HRS HUL
  clear h hl
  rw [HRS.out]
  cases R with
  | none =>
    have hw : IntKind.i64.wrap 16 = 16 := rfl
    have hw2 : IntKind.i64.wrap 65536 = 65536 := rfl
    go_enter Tryd.func36, Tryd.ntmps36
    go_upto_region 1 with (fail)
    go_region_with ((go_at_call 39; refine (HU.out _ H.out.drew).mono ?_; rintro e w1 (⟨_, _, h, _⟩ | ⟨_, rfl, hB⟩); (cases h); (refine (fun (_ : wpAny Tryd.prog .any #[] (fun _ _ _ => True) 0 #[] { tmps := #[], defers := [] } w1) => ⟨rfl, .inr ⟨rfl, rfl, hB⟩⟩) ?_)))
    all_goals trivial
  | some p =>
    obtain ⟨n, s1⟩ := p
    have hw : IntKind.i64.wrap 16 = 16 := rfl
    have hw2 : IntKind.i64.wrap 65536 = 65536 := rfl
    go_enter Tryd.func36, Tryd.ntmps36
    go_upto_region 1 with (fail)
    go_region_with ((go_at_call 39; refine (HU.out _ H.out.drew).mono ?_; rintro e w1 (⟨_, _, h, rfl, hI⟩ | ⟨h, _, _⟩); (obtain ⟨rfl, rfl⟩ := Prod.mk.inj (Option.some.inj h))))
    have HUL := Lib.hid (HUL.out n s1 rfl)
    all_goals
      have hI2 := Lib.hid hI
      clear hI
      by_cases hc : 32768 ≤ n
      · have HSG := Lib.hid (show sgn 2 n = n - 65536 from if_pos hc)
        have h1 := HUL.out.2
        go_wp2_with fail
        go_ret
        exact .inl ⟨_, _, rfl, by rw [HSG.out]; rfl, hI2.out⟩
      · have HSG := Lib.hid (show sgn 2 n = n from if_neg hc)
        go_wp2_with fail
        go_ret
        exact .inl ⟨_, _, rfl, by rw [HSG.out]; rfl, hI2.out⟩
set_option maxRecDepth 100000 in
set_option maxHeartbeats 4000000 in
theorem signed_four (w0 w : World) (s : RS) (hl : s.S.length ≤ 1000000) (h : IsD w0 w s) :
    Calls Tryd.prog 36 #[.pointer (some ⟨w0.heap.size, 0, none⟩), .int .i64 4] w (DOutN w0 (rSigned 4 s)) := by
  have HU := Lib.hid (fun w (h : IsD w0 w s) => unsigned_any w0 w s 4 (by decide) hl h)
  have HRS := Lib.hid (show rSigned 4 s = (rUnsigned 4 s).map fun p => (sgn 4 p.1, p.2) by unfold rSigned rUnsigned; cases rTake 4 s <;> rfl)
  have HUL := Lib.hid (show ∀ n s', rUnsigned 4 s = some (n, s') → 0 ≤ n ∧ n < 4294967296 from by
    intro n s' e
    unfold rUnsigned at e
    cases hx : rTake 4 s with
    | none => rw [hx] at e; cases e
    | some p =>
      obtain ⟨b, s1⟩ := p
      rw [hx] at e
      simp only [Option.map_some, Option.some.injEq, Prod.mk.injEq] at e
      have hb := unsig_lt b
      rw [(take_out hx).2.1] at hb
      have hb' : unsig b < 4294967296 := hb
      omega)
  have H := Lib.hid h
  generalize rUnsigned 4 s = R at HU HRS HUL
  clear h hl
  rw [HRS.out]
  cases R with
  | none =>
    have hw : IntKind.i64.wrap 32 = 32 := rfl
    have hw2 : IntKind.i64.wrap 4294967296 = 4294967296 := rfl
    go_enter Tryd.func36, Tryd.ntmps36
    go_upto_region 1 with (fail)
    go_region_with ((go_at_call 39; refine (HU.out _ H.out.drew).mono ?_; rintro e w1 (⟨_, _, h, _⟩ | ⟨_, rfl, hB⟩); (cases h); (refine (fun (_ : wpAny Tryd.prog .any #[] (fun _ _ _ => True) 0 #[] { tmps := #[], defers := [] } w1) => ⟨rfl, .inr ⟨rfl, rfl, hB⟩⟩) ?_)))
    all_goals trivial
  | some p =>
    obtain ⟨n, s1⟩ := p
    have hw : IntKind.i64.wrap 32 = 32 := rfl
    have hw2 : IntKind.i64.wrap 4294967296 = 4294967296 := rfl
    go_enter Tryd.func36, Tryd.ntmps36
    go_upto_region 1 with (fail)
    go_region_with ((go_at_call 39; refine (HU.out _ H.out.drew).mono ?_; rintro e w1 (⟨_, _, h, rfl, hI⟩ | ⟨h, _, _⟩); (obtain ⟨rfl, rfl⟩ := Prod.mk.inj (Option.some.inj h))))
    have HUL := Lib.hid (HUL.out n s1 rfl)
    all_goals
      have hI2 := Lib.hid hI
      clear hI
      by_cases hc : 2147483648 ≤ n
      · have HSG := Lib.hid (show sgn 4 n = n - 4294967296 from if_pos hc)
        have h1 := HUL.out.2
        go_wp2_with fail
        go_ret
        exact .inl ⟨_, _, rfl, by rw [HSG.out]; rfl, hI2.out⟩
      · have HSG := Lib.hid (show sgn 4 n = n from if_neg hc)
        go_wp2_with fail
        go_ret
        exact .inl ⟨_, _, rfl, by rw [HSG.out]; rfl, hI2.out⟩
end Go.Proofs.YtfdffiphlpeegaaDoor

namespace Go.Proofs.YtfdffiphlpeegaaDoor
open Go.RowKit Go.Lib Go.WideShapes

/-- A state of the document's reader. -/
structure QS where
  s : RS
  bad : Bool
/-- The document's reader, that was made behind w0, in a message of kind k. -/
structure QAt (w0 w : World) (k : Int) (q : QS) (tv nv : Value) : Prop where
  below : Below w0.heap.size w0 w
  heap : w.heap[w0.heap.size]? = some (.cells #[.string ⟨q.s.S.toArray⟩, .int .u8 k, tv, nv, .bool q.bad] 51 (0, 0))
  texts : w.ownsRow (w0.heap.size + 1) 9 1 tv q.s.T.length (tcells q.s.T)
  nums : w.ownsRow (w0.heap.size + 1) 3 1 nv q.s.N.length (ncells q.s.N)
def IsQ (w0 w : World) (k : Int) (q : QS) : Prop := ∃ tv nv, QAt w0 w k q tv nv
theorem QAt.lt {w0 w : World} {k : Int} {q : QS} {tv nv : Value} (h : QAt w0 w k q tv nv) : w0.heap.size < w.heap.size := (Array.getElem?_eq_some_iff.1 h.heap).1
theorem QAt.cell {w0 w : World} {k : Int} {q : QS} {tv nv : Value} (h : QAt w0 w k q tv nv) : w.cell? ⟨w0.heap.size, 0, none⟩ = some (.string ⟨q.s.S.toArray⟩) ∧ w.cell? ⟨w0.heap.size, 1, none⟩ = some (.int .u8 k) ∧ w.cell? ⟨w0.heap.size, 2, none⟩ = some tv ∧ w.cell? ⟨w0.heap.size, 3, none⟩ = some nv ∧ w.cell? ⟨w0.heap.size, 4, none⟩ = some (.bool q.bad) := by
  refine ⟨?_, ?_, ?_, ?_, ?_⟩ <;> rw [cell_of_row w _ _ _ _ (0, 0) h.heap] <;> rfl
theorem QAt.frozen {w0 w : World} {k : Int} {q : QS} {tv nv : Value} (h : QAt w0 w k q tv nv) (i : Nat) : w.frozen? ⟨w0.heap.size, i, none⟩ = false := by
  simp [World.frozen?, h.heap]
theorem QAt.grow {w0 w w' : World} {k : Int} {q : QS} {tv nv : Value} (h : QAt w0 w k q tv nv) (hb : Below w.heap.size w w') : QAt w0 w' k q tv nv :=
  ⟨h.below.trans (hb.mono h.below.size), (hb.block _ h.lt).trans h.heap, own_grown h.texts hb (Nat.le_refl _), own_grown h.nums hb (Nat.le_refl _)⟩
/-- A store into the reader's own block leaves its rows. -/
theorem QAt.stored {w0 w : World} {k : Int} {q : QS} {tv nv : Value} (h : QAt w0 w k q tv nv) (i : Nat) (x : Value) :
    Below w0.heap.size w0 (w.setCell ⟨w0.heap.size, i, none⟩ x) ∧ (w.setCell ⟨w0.heap.size, i, none⟩ x).heap[w0.heap.size]? = some (.cells ((#[.string ⟨q.s.S.toArray⟩, .int .u8 k, tv, nv, .bool q.bad] : Array Value).setIfInBounds i x) 51 (0, 0)) ∧ (w.setCell ⟨w0.heap.size, i, none⟩ x).ownsRow (w0.heap.size + 1) 9 1 tv q.s.T.length (tcells q.s.T) ∧ (w.setCell ⟨w0.heap.size, i, none⟩ x).ownsRow (w0.heap.size + 1) 3 1 nv q.s.N.length (ncells q.s.N) := by
  have hk : ∀ j, j ≠ w0.heap.size → (w.setCell ⟨w0.heap.size, i, none⟩ x).heap[j]? = w.heap[j]? := fun j hj => Below.heap_setCell _ _ _ _ hj
  refine ⟨h.below.setCell (Nat.le_refl _) _, ?_, ?_, ?_⟩
  · rw [setCell_eq_setRow w _ i _ _ (0, 0) x h.heap]
    exact setRow_heap w _ _ _ _ _ h.heap
  · exact ⟨h.texts.1, h.texts.2.imp id fun ⟨g, cap, cur, e1, e2, e3, e4⟩ => ⟨g, cap, cur, e1, e2, (hk g (by omega)).trans e3, e4⟩⟩
  · exact ⟨h.nums.1, h.nums.2.imp id fun ⟨g, cap, cur, e1, e2, e3, e4⟩ => ⟨g, cap, cur, e1, e2, (hk g (by omega)).trans e3, e4⟩⟩
theorem QAt.putS {w0 w : World} {k : Int} {q : QS} {tv nv : Value} (h : QAt w0 w k q tv nv) (S : Bs) : QAt w0 (w.setCell ⟨w0.heap.size, 0, none⟩ (.string ⟨S.toArray⟩)) k ⟨{ q.s with S := S }, q.bad⟩ tv nv :=
  ⟨(h.stored 0 _).1, (h.stored 0 _).2.1, (h.stored 0 (.string ⟨S.toArray⟩)).2.2.1, (h.stored 0 (.string ⟨S.toArray⟩)).2.2.2⟩
theorem QAt.putBad {w0 w : World} {k : Int} {q : QS} {tv nv : Value} (h : QAt w0 w k q tv nv) : QAt w0 (w.setCell ⟨w0.heap.size, 4, none⟩ (.bool true)) k ⟨q.s, true⟩ tv nv :=
  ⟨(h.stored 4 _).1, (h.stored 4 _).2.1, (h.stored 4 (.bool true)).2.2.1, (h.stored 4 (.bool true)).2.2.2⟩
/-- Behind an append to a row that the reader owns, the row's cell written. -/
theorem QAt.putT {w0 w w1 : World} {k : Int} {q : QS} {tv nv tv' : Value} {T : List Bs} {o : Obj} (h : QAt w0 w k q tv nv) (hO : w1.ownsRow (w0.heap.size + 1) 9 1 tv' T.length (tcells T)) (hg : (w.alloc o).grownBy w1 tv.ownBlock) : QAt w0 (w1.setCell ⟨w0.heap.size, 2, none⟩ tv') k ⟨{ q.s with T := T }, q.bad⟩ tv' nv := by
  have hB : Below (w0.heap.size + 1) w w1 := below_grown ((Below.refl (w0.heap.size + 1) w).alloc h.lt _) (by rw [World.size_alloc]; exact Nat.le_succ_of_le h.lt) hg (fun q hq => (h.texts.lt q hq).1)
  have hN : w1.ownsRow (w0.heap.size + 1) 3 1 nv q.s.N.length (ncells q.s.N) := (h.nums.alloc o).kept hg (own_apart (h.texts.alloc o) (h.nums.alloc o) string_ne_int)
  have hh : w1.heap[w0.heap.size]? = some (.cells #[.string ⟨q.s.S.toArray⟩, .int .u8 k, tv, nv, .bool q.bad] 51 (0, 0)) := (hB.block _ (Nat.lt_succ_self _)).trans h.heap
  have hk : ∀ j, j ≠ w0.heap.size → (w1.setCell ⟨w0.heap.size, 2, none⟩ tv').heap[j]? = w1.heap[j]? := fun j hj => Below.heap_setCell _ _ _ _ hj
  refine ⟨(h.below.trans (hB.mono (Nat.le_succ _))).setCell (Nat.le_refl _) _, ?_, ?_, ?_⟩
  · rw [setCell_eq_setRow w1 _ 2 _ _ (0, 0) tv' hh]
    exact setRow_heap w1 _ _ _ _ _ hh
  · exact ⟨hO.1, hO.2.imp id fun ⟨g, cap, cur, e1, e2, e3, e4⟩ => ⟨g, cap, cur, e1, e2, (hk g (by omega)).trans e3, e4⟩⟩
  · exact ⟨hN.1, hN.2.imp id fun ⟨g, cap, cur, e1, e2, e3, e4⟩ => ⟨g, cap, cur, e1, e2, (hk g (by omega)).trans e3, e4⟩⟩
theorem QAt.putN {w0 w w1 : World} {k : Int} {q : QS} {tv nv nv' : Value} {N : List Int} {o : Obj} (h : QAt w0 w k q tv nv) (hO : w1.ownsRow (w0.heap.size + 1) 3 1 nv' N.length (ncells N)) (hg : (w.alloc o).grownBy w1 nv.ownBlock) : QAt w0 (w1.setCell ⟨w0.heap.size, 3, none⟩ nv') k ⟨{ q.s with N := N }, q.bad⟩ tv nv' := by
  have hB : Below (w0.heap.size + 1) w w1 := below_grown ((Below.refl (w0.heap.size + 1) w).alloc h.lt _) (by rw [World.size_alloc]; exact Nat.le_succ_of_le h.lt) hg (fun q hq => (h.nums.lt q hq).1)
  have hT : w1.ownsRow (w0.heap.size + 1) 9 1 tv q.s.T.length (tcells q.s.T) := (h.texts.alloc o).kept hg (own_apart (h.nums.alloc o) (h.texts.alloc o) string_ne_int.symm)
  have hh : w1.heap[w0.heap.size]? = some (.cells #[.string ⟨q.s.S.toArray⟩, .int .u8 k, tv, nv, .bool q.bad] 51 (0, 0)) := (hB.block _ (Nat.lt_succ_self _)).trans h.heap
  have hk : ∀ j, j ≠ w0.heap.size → (w1.setCell ⟨w0.heap.size, 3, none⟩ nv').heap[j]? = w1.heap[j]? := fun j hj => Below.heap_setCell _ _ _ _ hj
  refine ⟨(h.below.trans (hB.mono (Nat.le_succ _))).setCell (Nat.le_refl _) _, ?_, ?_, ?_⟩
  · rw [setCell_eq_setRow w1 _ 3 _ _ (0, 0) nv' hh]
    exact setRow_heap w1 _ _ _ _ _ hh
  · exact ⟨hT.1, hT.2.imp id fun ⟨g, cap, cur, e1, e2, e3, e4⟩ => ⟨g, cap, cur, e1, e2, (hk g (by omega)).trans e3, e4⟩⟩
  · exact ⟨hO.1, hO.2.imp id fun ⟨g, cap, cur, e1, e2, e3, e4⟩ => ⟨g, cap, cur, e1, e2, (hk g (by omega)).trans e3, e4⟩⟩

/-- How much a reader holds. -/
def qpot (s : RS) : Nat := s.S.length + (s.T.map List.length).sum + s.T.length + s.N.length
set_option maxRecDepth 100000 in
set_option maxHeartbeats 4000000 in
theorem qkeep_any (w0 w : World) (k : Int) (q : QS) (n : Int) (hr : qpot q.s ≤ 1000000) (h : IsQ w0 w k q) :
    Calls Tryd.prog 27 #[.pointer (some ⟨w0.heap.size, 0, none⟩), .int .i64 n] w fun e w' => e = .returned (.tuple #[]) ∧ IsQ w0 w' k ⟨rKeep n q.s, q.bad⟩ := by
  obtain ⟨i0, hi, y0, y1, y2⟩ := info_parts info_i64
  obtain ⟨tv, nv, hW⟩ := h
  obtain ⟨a, c, rfl⟩ := ownsRow_form hW.nums
  obtain ⟨c0, c1, c2, c3, c4⟩ := hW.cell
  have f3 := hW.frozen 3
  have hz := hW.lt
  have hl : q.s.N.length ≤ 1000000 := by unfold qpot at hr; omega
  have HW := Lib.hid hW
  clear hW c0 c1 c2 c4 hr
  go_enter Tryd.func27, Tryd.ntmps27
  go_wp2_with (at_builtin; refine wpList_append_at _ rfl (.tmp 9) (.tmp 11) 26 rfl (w0.heap.size + 1) 3 i0 (.int .i64 0) 1 8 Tryd.underlying26 hi y0 y1 y2 rfl (by decide) (.slice a q.s.N.length c) q.s.N.length (ncells q.s.N) rfl (HW.out.nums.alloc _) ⟨w.heap.size, 0, none⟩ 1 1 [.int .i64 n] rfl rfl (fun j u h => by rw [Go.WideShapes.add_plain, Nat.zero_add, ← h]; exact (World.cell?_alloc_new w _ _ j).trans (by simp)) (by intro u hu; simp at hu; rcases hu with rfl; rfl) (by unfold maxLen; omega) (by omega) (by rw [World.size_alloc]; omega) ?_)
  intro v' w1 hO hg _
  obtain ⟨a', c', rfl⟩ := ownsRow_form hO
  have hB : Below (w0.heap.size + 1) w w1 := below_grown ((Below.refl (w0.heap.size + 1) w).alloc HW.out.lt _) (by rw [World.size_alloc]; exact Nat.le_succ_of_le HW.out.lt) hg (fun q hq => (HW.out.nums.lt q hq).1)
  have e3 := (hB.cell (p := ⟨w0.heap.size, 3, none⟩) (Nat.lt_succ_self _)).trans c3
  have g3 := (hB.frozen (p := ⟨w0.heap.size, 3, none⟩) (Nat.lt_succ_self _)).trans f3
  have HP := Lib.hid (HW.out.putN (N := q.s.N ++ [n]) (by rw [ncells_append, List.length_append]; exact hO) hg)
  clear hO hg hB c3 f3
  go_wp2_with fail
  go_end0
  exact ⟨rfl, _, _, HP.out⟩
end Go.Proofs.YtfdffiphlpeegaaDoor

namespace Go.Proofs.YtfdffiphlpeegaaDoor
open Go.RowKit Go.Lib Go.WideShapes

theorem rText_nums {s s1 : RS} (N : List Int) (h : rText s = some s1) : rText { s with N := N } = some { s1 with N := N } ∧ s1.N = s.N := by
  unfold rText at h ⊢
  by_cases h0 : (0 : UInt8) ∈ s.S
  · rw [if_pos h0] at h ⊢
    cases h
    exact ⟨rfl, rfl⟩
  · rw [if_neg h0] at h; cases h
theorem rRow_nums : ∀ (k : Nat) (s : RS) (N : List Int) (p : Nat × RS), rRow rText k s = some p → rRow rText k { s with N := N } = some (p.1, { p.2 with N := N }) ∧ p.2.N = s.N
  | 0, s, N, p, h => by cases h
  | k + 1, s, N, p, h => by
    obtain ⟨S, T, M⟩ := s
    cases S with
    | nil => cases h
    | cons b r =>
      have h1 : (if b = 0 then some (0, (⟨r, T, M⟩ : RS)) else (rText ⟨b :: r, T, M⟩).bind fun s1 => (rRow rText k s1).map fun p => (p.1 + 1, p.2)) = some p := h
      show (if b = 0 then some (0, (⟨r, T, N⟩ : RS)) else (rText ⟨b :: r, T, N⟩).bind fun s1 => (rRow rText k s1).map fun p => (p.1 + 1, p.2)) = _ ∧ _
      by_cases hb : b = 0
      · rw [if_pos hb] at h1 ⊢
        cases h1; exact ⟨rfl, rfl⟩
      · rw [if_neg hb] at h1 ⊢
        cases ht : rText ⟨b :: r, T, M⟩ with
        | none => rw [ht] at h1; cases h1
        | some s1 =>
          rw [ht] at h1
          have h2 : (rRow rText k s1).map (fun p => (p.1 + 1, p.2)) = some p := h1
          obtain ⟨e1, e2⟩ := rText_nums N ht
          have e1' : rText ⟨b :: r, T, N⟩ = some { s1 with N := N } := e1
          rw [e1']
          cases hr : rRow rText k s1 with
          | none => rw [hr] at h2; cases h2
          | some p1 =>
            rw [hr] at h2
            cases h2
            obtain ⟨e3, e4⟩ := rRow_nums k s1 N p1 hr
            exact ⟨by show (rRow rText k { s1 with N := N }).map _ = _; rw [e3]; rfl, e4.trans e2⟩
/-- What texts reads: fields, or texts, behind a place for how many. -/
def qRow (fields : Bool) : RS → Option RS := if fields then rItem else rText
/-- A field of pairs, or of fields, by what its row is. -/
theorem texts_of {fields : Bool} {s s1 : RS} (h : (if fields then rFields s else rPairs s) = some s1) : ∃ n s2, rRow (qRow fields) s.S.length (rKeep 0 s) = some (n, s2) ∧ s1 = { s2 with N := s2.N.set s.N.length (n : Int) } := by
  cases fields with
  | true =>
    have h1 : (rRow rItem s.S.length (rKeep 0 s)).map (fun p => { p.2 with N := p.2.N.set s.N.length p.1 }) = some s1 := h
    cases hr : rRow rItem s.S.length (rKeep 0 s) with
    | none => rw [hr] at h1; cases h1
    | some p => rw [hr] at h1; cases h1; exact ⟨p.1, p.2, hr, rfl⟩
  | false =>
    have h1 : ((rRow rText s.S.length s).bind fun p => if p.1 % 2 = 0 then some (rKeep p.1 p.2) else none) = some s1 := h
    cases hr : rRow rText s.S.length s with
    | none => rw [hr] at h1; cases h1
    | some p =>
      rw [hr] at h1
      have h2 : (if p.1 % 2 = 0 then some (rKeep p.1 p.2) else none) = some s1 := h1
      split at h2
      · cases h2
        obtain ⟨e1, e2⟩ := rRow_nums _ s (s.N ++ [0]) p hr
        refine ⟨p.1, _, e1, ?_⟩
        show (⟨p.2.S, p.2.T, p.2.N ++ [(p.1 : Int)]⟩ : RS) = ⟨p.2.S, p.2.T, (s.N ++ [(0 : Int)]).set s.N.length (p.1 : Int)⟩
        rw [e2]
        congr 1
        rw [List.set_append_right _ _ (Nat.le_refl _), Nat.sub_self]; rfl
      · cases h2
/-- A row's reading, step by step: what was read, and what is to be read. -/
theorem rRow_stop {f : RS → Option RS} {k : Nat} {s : RS} {r : Bs} (hs : s.S = 0 :: r) {p : Nat × RS} (h : rRow f k s = some p) : p = (0, { s with S := r }) := by
  obtain ⟨S, T, N⟩ := s
  cases k with
  | zero => cases h
  | succ k =>
    subst hs
    have h1 : (if (0 : UInt8) = 0 then some (0, (⟨r, T, N⟩ : RS)) else (f ⟨0 :: r, T, N⟩).bind fun s1 => (rRow f k s1).map fun p => (p.1 + 1, p.2)) = some p := h
    rw [if_pos rfl] at h1
    exact (Option.some.inj h1).symm
theorem rRow_none {f : RS → Option RS} {k : Nat} {s : RS} (hs : s.S = []) : rRow f k s = none := by
  obtain ⟨S, T, N⟩ := s
  subst hs
  cases k <;> rfl
theorem rRow_next {f : RS → Option RS} {k : Nat} {s : RS} {b : UInt8} {r : Bs} (hs : s.S = b :: r) (hb : b ≠ 0) {p : Nat × RS} (h : rRow f k s = some p) : ∃ k' s1 p1, f s = some s1 ∧ rRow f k' s1 = some p1 ∧ p = (p1.1 + 1, p1.2) := by
  obtain ⟨S, T, N⟩ := s
  cases k with
  | zero => cases h
  | succ k =>
    subst hs
    have h1 : (if b = 0 then some (0, (⟨r, T, N⟩ : RS)) else (f ⟨b :: r, T, N⟩).bind fun s1 => (rRow f k s1).map fun p => (p.1 + 1, p.2)) = some p := h
    rw [if_neg hb] at h1
    cases hf : f ⟨b :: r, T, N⟩ with
    | none => rw [hf] at h1; cases h1
    | some s1 =>
      rw [hf] at h1
      have h2 : (rRow f k s1).map (fun p => (p.1 + 1, p.2)) = some p := h1
      cases hr : rRow f k s1 with
      | none => rw [hr] at h2; cases h2
      | some p1 => rw [hr] at h2; cases h2; exact ⟨k, s1, p1, rfl, hr, rfl⟩
/-- The text up to a byte 0, if there is one. -/
def qEnd (q : QS) : Bs × QS := if (0 : UInt8) ∈ q.s.S then (q.s.S.takeWhile (· != 0), ⟨{ q.s with S := q.s.S.drop ((q.s.S.takeWhile (· != 0)).length + 1) }, q.bad⟩) else ([], ⟨q.s, true⟩)
theorem qEnd_text {s s1 : RS} {bad : Bool} (h : rText s = some s1) : s1 = { (qEnd ⟨s, bad⟩).2.s with T := s.T ++ [(qEnd ⟨s, bad⟩).1] } ∧ (qEnd ⟨s, bad⟩).2.bad = bad := by
  unfold rText at h
  unfold qEnd
  by_cases h0 : (0 : UInt8) ∈ s.S
  · rw [if_pos h0] at h
    rw [if_pos (show (0 : UInt8) ∈ (QS.mk s bad).s.S from h0)]
    cases h
    exact ⟨rfl, rfl⟩
  · rw [if_neg h0] at h; cases h
/-- A number of k bytes; with a sign, if it is of more than one. -/
def qVal (k : Nat) (b : Bs) : Int := if k = 1 then (unsig b : Int) else sgn k (unsig b)
def qNum (k : Nat) (q : QS) : Int × QS := if q.s.S.length < k then (0, ⟨q.s, true⟩) else (qVal k (q.s.S.take k), ⟨{ q.s with S := q.s.S.drop k }, q.bad⟩)
theorem qNum_byte {s s1 : RS} {bad : Bool} (h : rByte s = some s1) : s1 = rKeep (qNum 1 ⟨s, bad⟩).1 (qNum 1 ⟨s, bad⟩).2.s ∧ (qNum 1 ⟨s, bad⟩).2.bad = bad := by
  unfold rByte rUnsigned rTake at h
  unfold qNum
  by_cases hl : 1 ≤ s.S.length
  · rw [if_pos hl] at h
    rw [if_neg (show ¬ (QS.mk s bad).s.S.length < 1 by show ¬ s.S.length < 1; omega)]
    cases h
    exact ⟨rfl, rfl⟩
  · rw [if_neg hl] at h; cases h
theorem qNum_signed {k : Nat} {s : RS} {bad : Bool} {p : Int × RS} (hk : k ≠ 1) (h : rSigned k s = some p) : p = ((qNum k ⟨s, bad⟩).1, (qNum k ⟨s, bad⟩).2.s) ∧ (qNum k ⟨s, bad⟩).2.bad = bad := by
  unfold rSigned rTake at h
  unfold qNum
  by_cases hl : k ≤ s.S.length
  · rw [if_pos hl] at h
    rw [if_neg (show ¬ (QS.mk s bad).s.S.length < k by show ¬ s.S.length < k; omega)]
    cases h
    refine ⟨?_, rfl⟩
    show (_, _) = (qVal k (s.S.take k), _)
    unfold qVal
    rw [if_neg hk]
  · rw [if_neg hl] at h; cases h
theorem qEnd_pot (q : QS) : (qEnd q).2.s.S.length + (qEnd q).1.length + (if (0 : UInt8) ∈ q.s.S then 1 else 0) = q.s.S.length ∧ (qEnd q).2.s.T = q.s.T ∧ (qEnd q).2.s.N = q.s.N := by
  unfold qEnd
  by_cases h0 : (0 : UInt8) ∈ q.s.S
  · rw [if_pos h0, if_pos h0]
    refine ⟨?_, rfl, rfl⟩
    have h1 : (q.s.S.takeWhile (· != 0)).length < q.s.S.length := by
      have : ∀ l : Bs, (0 : UInt8) ∈ l → (l.takeWhile (· != 0)).length < l.length := by
        intro l
        induction l with
        | nil => intro h; cases h
        | cons a r ih =>
          intro h
          by_cases ha : a = 0
          · subst ha; simp
          · have h2 : (0 : UInt8) ∈ r := by
              rcases List.mem_cons.1 h with e | e
              · exact absurd e.symm ha
              · exact e
            have := ih h2
            rw [List.takeWhile_cons, if_pos (by simpa using ha)]
            simp only [List.length_cons]
            omega
      exact this _ h0
    show (q.s.S.drop _).length + (q.s.S.takeWhile (· != 0)).length + 1 = _
    rw [List.length_drop]
    omega
  · rw [if_neg h0, if_neg h0]
    exact ⟨by simp, rfl, rfl⟩
theorem qNum_pot (k : Nat) (q : QS) : (qNum k q).2.s.S.length + (if q.s.S.length < k then 0 else k) = q.s.S.length ∧ (qNum k q).2.s.T = q.s.T ∧ (qNum k q).2.s.N = q.s.N := by
  unfold qNum
  by_cases h : q.s.S.length < k
  · rw [if_pos h, if_pos h]; exact ⟨rfl, rfl, rfl⟩
  · rw [if_neg h, if_neg h]
    refine ⟨?_, rfl, rfl⟩
    show (q.s.S.drop k).length + k = _
    rw [List.length_drop]; omega
end Go.Proofs.YtfdffiphlpeegaaDoor
