/- Contracts and mathematics: DK, DL, DT, DTrim. -/
import Derived.Test.YtpijolcklmdjbaaGreatDoorZ33
import Derived.Lib.QuoteBits
import Derived.Lib.ConvBytes
import Derived.Lib.SmallJoins
namespace Go.Proofs.YtpijolcklmdjbaaGreatDoor
open Go.RowKit Go.Lib Go.WideShapes

theorem info_i64 : (Tryz.prog.info? 3).map (fun i => (i.zero, i.size, i.bytes)) = some (some (.int .i64 0), 1, 8) := by kernel_rfl

set_option maxRecDepth 100000 in
set_option maxHeartbeats 4000000 in
theorem keep_any (w0 w : World) (s : RS) (n : Int) (hr : s.N.length ≤ 1000000) (h : IsD w0 w s) :
    Calls Tryz.prog 75 #[.pointer (some ⟨w0.heap.size, 0, none⟩), .int .i64 n] w (DOut w0 (some (rKeep n s))) := by
  obtain ⟨i0, hi, y0, y1, y2⟩ := info_parts info_i64
  obtain ⟨tv, nv, hW⟩ := h
  obtain ⟨a, c, rfl⟩ := ownsRow_form hW.nums
  have c2 := hW.c2
  have f2 := hW.f2
  have hz := hW.lt
  have HW := Lib.hid hW
  clear hW
  go_enter Tryz.func75, Tryz.ntmps75
  go_wp2_with (at_builtin; refine wpList_append_at _ rfl (.tmp 8) (.tmp 10) 37 rfl (w0.heap.size + 1) 3 i0 (.int .i64 0) 1 8 Tryz.underlying37 hi y0 y1 y2 rfl (by decide) (.slice a s.N.length c) s.N.length (ncells s.N) rfl (HW.out.nums.alloc _) ⟨w.heap.size, 0, none⟩ 1 1 [.int .i64 n] rfl rfl (fun j u h => by rw [Go.WideShapes.add_plain, Nat.zero_add, ← h]; exact (World.cell?_alloc_new w _ _ j).trans (by simp)) (by intro u hu; simp at hu; rcases hu with rfl; rfl) (by unfold maxLen; omega) (by omega) (by simp; omega) ?_)
  intro v' w1 hO hg _
  obtain ⟨a', c', rfl⟩ := ownsRow_form hO
  have HB := Lib.hid (HW.out.grewN hg)
  obtain ⟨⟨e2, g2⟩, _, hz1⟩ := HW.out.afterN HB.out
  have HP := Lib.hid (HW.out.put2 (N := s.N ++ [n]) HB.out (HW.out.rowT hg) (by rw [ncells_append, List.length_append]; exact hO))
  clear hO hg c2 f2
  go_wp2_with fail
  go_end0
  exact .inl ⟨_, rfl, rfl, _, _, HP.out⟩

theorem or_byte (n : Nat) (b : UInt8) (h : n < 16777216) : bits .or .i64 ((n : Int) * 256) (b.toNat : Nat) = ((n * 256 + b.toNat : Nat) : Int) := by
  have hb : b.toNat < 256 := UInt8.toNat_lt b
  have hk : ∀ n : Int, 0 ≤ n → n < 2 ^ 62 → IntKind.i64.wrap n = n := by
    intro n h0 h1
    obtain ⟨m, rfl⟩ := Int.eq_ofNat_of_zero_le h0
    exact wrap_i64_small m (by omega)
  rw [bits_join .i64 62 (by decide) hk 8 ((n : Int) * 256) (b.toNat : Nat) (by omega) (by omega) (by omega) (by omega) (by omega) (by omega)]
  omega
theorem conv_to (w : World) (s : ByteArray) : ∃ W c, (convert 9 47 (.string s)).run Tryz.prog w = .ok (.slice (some ⟨w.heap.size, 0, none⟩) s.size c) W ∧ (∀ j (hj : j < s.size), W.cell? ⟨w.heap.size, j, none⟩ = some (.int .u8 (s[j].toNat : Nat))) ∧ Below w.heap.size w W := by
  refine ⟨_, _, Lib.run_convert_string_bytes w 9 47 5 s Tryz.underlying9 Tryz.underlying47 Tryz.underlying5, ?_, Joins.below_bytesWorld _ _ _ _ (Nat.le_refl _)⟩
  intro j hj
  rw [Lib.bytesWorld_cell w 5 s j hj]
  have : s.data.toList.getD j 0 = s[j] := by
    rw [List.getD_eq_getElem?_getD, List.getElem?_eq_getElem (by simpa using hj)]; rfl
  rw [this]

set_option maxRecDepth 100000 in
set_option maxHeartbeats 8000000 in
theorem unsigned_any (w0 w : World) (s : RS) (k : Nat) (hk : 1 ≤ k ∧ k ≤ 4) (hl : s.S.length ≤ 1000000) (h : IsD w0 w s) :
    Calls Tryz.prog 76 #[.pointer (some ⟨w0.heap.size, 0, none⟩), .int .i64 k] w (DOutN w0 (rUnsigned k s)) := by
  have HT := Lib.hid (take_anyM w0 w s k hl h)
  obtain ⟨hk1, hk4⟩ := hk
  unfold rUnsigned
  have HTO := Lib.hid (fun b s' => take_out (k := k) (s := s) (b := b) (s' := s'))
  generalize rTake k s = R at HT HTO ⊢
  clear h hl
  go_enter Tryz.func76, Tryz.ntmps76
  go_wp2_with fail
  refine HT.out.mono ?_; rintro e w1 (⟨b, s1, rfl, rfl, hI⟩ | ⟨rfl, rfl, hB⟩)
  · have hbl := (HTO.out b s1 rfl).2.1
    obtain ⟨bb, hbb⟩ : ∃ bb : ByteArray, bb = ⟨b.toArray⟩ := ⟨_, rfl⟩
    have hbz : bb.size = k := by rw [hbb, bsize]; exact hbl
    have HBB := Lib.hid (show bytes bb = b by rw [hbb])
    have HI := Lib.hid hI
    have h0 : 0 < bb.size := by omega
    have hb4 : bb.size ≤ 4 := by omega
    rw [← hbb]
    have HBZ := Lib.hid hbz
    clear hbb hbl hI hbz
    obtain ⟨W, cap, hcv, hcell, hWB⟩ := conv_to w1 bb
    have HCELL := Lib.hid hcell
    have HI2 := Lib.hid (show IsD w0 W s1 from by obtain ⟨tv, nv, hD⟩ := HI.out; exact ⟨tv, nv, hD.grow hWB⟩)
    have HBLT := Lib.hid (show ∀ j, unsig (b.take j) < 256 ^ j from fun j => Nat.lt_of_lt_of_le (unsig_lt _) (Nat.pow_le_pow_right (by decide) (List.length_take_le _ _)))
    clear hcell hWB
    go_wp2_with fail
    go_loopw [5, 13] (fun n i wx => ∃ j : Nat, j ≤ bb.size ∧ i = .int .i64 j ∧ n = .int .i64 (unsig (b.take j) : Nat) ∧ wx = W) (fun _ i _ => bb.size - (RowKit.intOf i).toNat)
    case atStart => exact ⟨0, Nat.zero_le _, rfl, rfl, rfl⟩
    case round =>
      obtain ⟨j, hj, rfl, rfl, hwr⟩ := hrel
      subst hwr
      clear hcv
      by_cases hlt : j < bb.size
      · have hlt' : (j : Int) < bb.size := by omega
        have d0 := HCELL.out j hlt
        have hjb : j < b.length := by rw [← HBB.out, blen]; exact hlt
        have hg : b[j] = bb[j] := by
          have : (bytes bb)[j]'(by rw [blen]; exact hlt) = bb[j] := rfl
          simp only [HBB.out] at this
          exact this
        have HN := Lib.hid (show unsig (b.take (j + 1)) = unsig (b.take j) * 256 + bb[j].toNat from by
          rw [List.take_succ_eq_append_getElem hjb, unsig_snoc, hg])
        have hu : unsig (b.take j) < 16777216 := by
          have h1 := HBLT.out j
          have h2 : 256 ^ j ≤ 256 ^ 3 := Nat.pow_le_pow_right (by decide) (by have := HBZ.out; omega)
          exact Nat.lt_of_lt_of_le h1 h2
        have hor := or_byte (unsig (b.take j)) bb[j] hu
        generalize unsig (b.take j) = u at hu hor HN ⊢
        have hbt : bb[j].toNat < 256 := UInt8.toNat_lt _
        generalize bb[j].toNat = v at d0 hor HN hbt
        have hu' : (u : Int) * 256 ≤ 9223372036854775807 := by omega
        clear hjb hg
        go_wp2_with fail
        go_roundw
        case measure => first | omega | (simp [RowKit.intOf]; omega)
        case rel => exact ⟨j + 1, by omega, by go_num, by rw [HN.out]; exact congrArg (Value.int .i64) (by omega), by trivial⟩
      · have hjz : j = bb.size := by omega
        have HF := Lib.hid (show b.take j = b by rw [hjz, ← blen, HBB.out, List.take_length])
        clear hjz
        go_wp2_with fail
        go_ret
        refine .inl ⟨_, s1, rfl, by rw [HF.out]; rfl, HI2.out⟩
  · go_wp2_with fail
    exact ⟨rfl, .inr ⟨rfl, rfl, hB⟩⟩

theorem IsD.drew {w0 w : World} {s : RS} (h : IsD w0 w s) : IsD w0 w.drew s := by
  obtain ⟨tv, nv, h⟩ := h
  exact ⟨tv, nv, h.drew⟩
set_option maxRecDepth 100000 in
set_option maxHeartbeats 4000000 in
theorem signed_two (w0 w : World) (s : RS) (hl : s.S.length ≤ 1000000) (h : IsD w0 w s) :
    Calls Tryz.prog 73 #[.pointer (some ⟨w0.heap.size, 0, none⟩), .int .i64 2] w (DOutN w0 (rSigned 2 s)) := by
  have HU := Lib.hid (fun w (h : IsD w0 w s) => unsigned_any w0 w s 2 (by decide) hl h)
  have HRS := Lib.hid (show rSigned 2 s = (rUnsigned 2 s).map fun p => (sgnM 2 p.1, p.2) by unfold rSigned rUnsigned; cases rTake 2 s <;> rfl)
  have HUL := Lib.hid (show ∀ n s', rUnsigned 2 s = some (n, s') → 0 ≤ n ∧ n < 65536 from by
    intro n s' e
    unfold rUnsigned at e
    cases hx : rTake 2 s with
    | none => rw [hx] at e; cases e
    | some p =>
      obtain ⟨b, s1⟩ := p
      rw [hx] at e
      simp only [Option.map_some, Option.some.injEq, Prod.mk.injEq] at e
      have hb := unsig_lt b
      rw [(take_out hx).2.1] at hb
      have hb' : unsig b < 65536 := hb
      omega)
  have H := Lib.hid h
  generalize rUnsigned 2 s = R at HU HRS HUL
  clear h hl
  rw [HRS.out]
  cases R with
  | none =>
    have hw : IntKind.i64.wrap 16 = 16 := rfl
    have hw2 : IntKind.i64.wrap 65536 = 65536 := rfl
    go_enter Tryz.func73, Tryz.ntmps73
    go_upto_region 1 with (fail)
    go_region_with ((go_at_call 76; refine (HU.out _ H.out.drew).mono ?_; rintro e w1 (⟨_, _, h, _⟩ | ⟨_, rfl, hB⟩); (cases h); (refine (fun (_ : wpAny Tryz.prog .any #[] (fun _ _ _ => True) 0 #[] { tmps := #[], defers := [] } w1) => ⟨rfl, .inr ⟨rfl, rfl, hB⟩⟩) ?_)))
    all_goals trivial
  | some p =>
    obtain ⟨n, s1⟩ := p
    have hw : IntKind.i64.wrap 16 = 16 := rfl
    have hw2 : IntKind.i64.wrap 65536 = 65536 := rfl
    go_enter Tryz.func73, Tryz.ntmps73
    go_upto_region 1 with (fail)
    go_region_with ((go_at_call 76; refine (HU.out _ H.out.drew).mono ?_; rintro e w1 (⟨_, _, h, rfl, hI⟩ | ⟨h, _, _⟩); (obtain ⟨rfl, rfl⟩ := Prod.mk.inj (Option.some.inj h))))
    have HUL := Lib.hid (HUL.out n s1 rfl)
    all_goals
      have hI2 := Lib.hid hI
      clear hI
      by_cases hc : 32768 ≤ n
      · have HSG := Lib.hid (show sgnM 2 n = n - 65536 from if_pos hc)
        have h1 := HUL.out.2
        go_wp2_with fail
        go_ret
        exact .inl ⟨_, _, rfl, by rw [HSG.out]; rfl, hI2.out⟩
      · have HSG := Lib.hid (show sgnM 2 n = n from if_neg hc)
        go_wp2_with fail
        go_ret
        exact .inl ⟨_, _, rfl, by rw [HSG.out]; rfl, hI2.out⟩
set_option maxRecDepth 100000 in
set_option maxHeartbeats 4000000 in
theorem signed_four (w0 w : World) (s : RS) (hl : s.S.length ≤ 1000000) (h : IsD w0 w s) :
    Calls Tryz.prog 73 #[.pointer (some ⟨w0.heap.size, 0, none⟩), .int .i64 4] w (DOutN w0 (rSigned 4 s)) := by
  have HU := Lib.hid (fun w (h : IsD w0 w s) => unsigned_any w0 w s 4 (by decide) hl h)
  have HRS := Lib.hid (show rSigned 4 s = (rUnsigned 4 s).map fun p => (sgnM 4 p.1, p.2) by unfold rSigned rUnsigned; cases rTake 4 s <;> rfl)
  have HUL := Lib.hid (show ∀ n s', rUnsigned 4 s = some (n, s') → 0 ≤ n ∧ n < 4294967296 from by
    intro n s' e
    unfold rUnsigned at e
    cases hx : rTake 4 s with
    | none => rw [hx] at e; cases e
    | some p =>
      obtain ⟨b, s1⟩ := p
      rw [hx] at e
      simp only [Option.map_some, Option.some.injEq, Prod.mk.injEq] at e
      have hb := unsig_lt b
      rw [(take_out hx).2.1] at hb
      have hb' : unsig b < 4294967296 := hb
      omega)
  have H := Lib.hid h
  generalize rUnsigned 4 s = R at HU HRS HUL
  clear h hl
  rw [HRS.out]
  cases R with
  | none =>
    have hw : IntKind.i64.wrap 32 = 32 := rfl
    have hw2 : IntKind.i64.wrap 4294967296 = 4294967296 := rfl
    go_enter Tryz.func73, Tryz.ntmps73
    go_upto_region 1 with (fail)
    go_region_with ((go_at_call 76; refine (HU.out _ H.out.drew).mono ?_; rintro e w1 (⟨_, _, h, _⟩ | ⟨_, rfl, hB⟩); (cases h); (refine (fun (_ : wpAny Tryz.prog .any #[] (fun _ _ _ => True) 0 #[] { tmps := #[], defers := [] } w1) => ⟨rfl, .inr ⟨rfl, rfl, hB⟩⟩) ?_)))
    all_goals trivial
  | some p =>
    obtain ⟨n, s1⟩ := p
    have hw : IntKind.i64.wrap 32 = 32 := rfl
    have hw2 : IntKind.i64.wrap 4294967296 = 4294967296 := rfl
    go_enter Tryz.func73, Tryz.ntmps73
    go_upto_region 1 with (fail)
    go_region_with ((go_at_call 76; refine (HU.out _ H.out.drew).mono ?_; rintro e w1 (⟨_, _, h, rfl, hI⟩ | ⟨h, _, _⟩); (obtain ⟨rfl, rfl⟩ := Prod.mk.inj (Option.some.inj h))))
    have HUL := Lib.hid (HUL.out n s1 rfl)
    all_goals
      have hI2 := Lib.hid hI
      clear hI
      by_cases hc : 2147483648 ≤ n
      · have HSG := Lib.hid (show sgnM 4 n = n - 4294967296 from if_pos hc)
        have h1 := HUL.out.2
        go_wp2_with fail
        go_ret
        exact .inl ⟨_, _, rfl, by rw [HSG.out]; rfl, hI2.out⟩
      · have HSG := Lib.hid (show sgnM 4 n = n from if_neg hc)
        go_wp2_with fail
        go_ret
        exact .inl ⟨_, _, rfl, by rw [HSG.out]; rfl, hI2.out⟩
end Go.Proofs.YtpijolcklmdjbaaGreatDoor

namespace Go.Proofs.YtpijolcklmdjbaaGreatDoor
open Go.RowKit Go.Lib Go.WideShapes

theorem signed_N {k : Nat} {n : Int} {s s' : RS} (h : rSigned k s = some (n, s')) : s'.N = s.N := by
  obtain ⟨_, _, _, _, _, _, e⟩ := signed_out h
  exact e
set_option maxRecDepth 100000 in
set_option maxHeartbeats 4000000 in
theorem short_r (w0 w : World) (s : RS) (hl : droom s ≤ 900000) (h : IsD w0 w s) :
    Calls Tryz.prog 81 #[.pointer (some ⟨w0.heap.size, 0, none⟩)] w (DOut w0 (rShort s)) := by
  have HS := Lib.hid (signed_two w0 w s (by unfold droom at hl; omega) h)
  unfold rShort
  have HO := Lib.hid (fun n s' => signed_N (k := 2) (s := s) (n := n) (s' := s'))
  have hN : s.N.length ≤ 1000000 := by unfold droom at hl; omega
  clear h hl
  generalize rSigned 2 s = R at HS HO ⊢
  go_enter Tryz.func81, Tryz.ntmps81
  go_wp2_with fail
  refine HS.out.mono ?_; rintro e w1 (⟨n, s1, rfl, rfl, hI⟩ | ⟨rfl, rfl, hB⟩)
  · have HI := Lib.hid hI
    have hNN : s1.N.length ≤ 1000000 := by rw [HO.out n s1 rfl]; exact hN
    clear hI
    go_wp2_with fail
    refine (keep_any w0 w1 s1 n hNN HI.out).mono ?_; rintro e w2 (⟨s2, h2, rfl, hI⟩ | ⟨h2, _, _⟩)
    · have HI2 := Lib.hid hI
      obtain rfl := Option.some.inj h2
      clear hI h2
      go_wp2_with fail
      go_end0
      exact .inl ⟨_, rfl, rfl, HI2.out⟩
    · cases h2
  · go_wp2_with fail
    exact ⟨rfl, .inr ⟨rfl, rfl, hB⟩⟩

set_option maxRecDepth 100000 in
set_option maxHeartbeats 4000000 in
theorem long_r (w0 w : World) (s : RS) (hl : droom s ≤ 900000) (h : IsD w0 w s) :
    Calls Tryz.prog 77 #[.pointer (some ⟨w0.heap.size, 0, none⟩)] w (DOut w0 (rLong s)) := by
  have HS := Lib.hid (signed_four w0 w s (by unfold droom at hl; omega) h)
  unfold rLong
  have HO := Lib.hid (fun n s' => signed_N (k := 4) (s := s) (n := n) (s' := s'))
  have hN : s.N.length ≤ 1000000 := by unfold droom at hl; omega
  clear h hl
  generalize rSigned 4 s = R at HS HO ⊢
  go_enter Tryz.func77, Tryz.ntmps77
  go_wp2_with fail
  refine HS.out.mono ?_; rintro e w1 (⟨n, s1, rfl, rfl, hI⟩ | ⟨rfl, rfl, hB⟩)
  · have HI := Lib.hid hI
    have hNN : s1.N.length ≤ 1000000 := by rw [HO.out n s1 rfl]; exact hN
    clear hI
    go_wp2_with fail
    refine (keep_any w0 w1 s1 n hNN HI.out).mono ?_; rintro e w2 (⟨s2, h2, rfl, hI⟩ | ⟨h2, _, _⟩)
    · have HI2 := Lib.hid hI
      obtain rfl := Option.some.inj h2
      clear hI h2
      go_wp2_with fail
      go_end0
      exact .inl ⟨_, rfl, rfl, HI2.out⟩
    · cases h2
  · go_wp2_with fail
    exact ⟨rfl, .inr ⟨rfl, rfl, hB⟩⟩
end Go.Proofs.YtpijolcklmdjbaaGreatDoor

namespace Go.Proofs.YtpijolcklmdjbaaGreatDoor
open Go.RowKit Go.Lib Go.WideShapes

theorem index_while : ∀ l : Bs, (0 : UInt8) ∈ l → Lib.indexByte l 0 = ((l.takeWhile (· != 0)).length : Nat) := by
  intro l
  induction l with
  | nil => intro h; cases h
  | cons b l ih =>
    intro h
    have e : Lib.indexByte (b :: l) 0 = if b == 0 then 0 else if Lib.indexByte l 0 == -1 then -1 else Lib.indexByte l 0 + 1 := rfl
    rw [e]
    by_cases hb : b = 0
    · subst hb; rfl
    · have hb' : (b == 0) = false := by simpa using hb
      have hb2 : (b != 0) = true := bne_iff_ne.2 hb
      have hm : (0 : UInt8) ∈ l := (List.mem_cons.1 h).resolve_left fun e => hb e.symm
      rw [hb', if_neg (by simp), ih hm, List.takeWhile_cons, hb2]
      have hne : (((l.takeWhile (· != 0)).length : Int) == -1) = false := by rw [beq_eq_false_iff_ne]; omega
      rw [hne, if_neg (by simp)]
      show _ = (((b :: l.takeWhile (· != 0)).length : Nat) : Int)
      rw [List.length_cons]; omega
theorem info_str : (Tryz.prog.info? 9).map (fun i => (i.zero, i.size, i.bytes)) = some (some (.string { data := #[] }), 1, 16) := by kernel_rfl
theorem while_len (l : Bs) : (l.takeWhile (· != 0)).length ≤ l.length := by
  induction l with
  | nil => exact Nat.le_refl _
  | cons b l ih => rw [List.takeWhile_cons]; split <;> simp <;> omega

/-- A text found: what the two takes leave. -/
theorem text_parts {s : RS} (h : (0 : UInt8) ∈ s.S) : rTake (s.S.takeWhile (· != 0)).length s = some (s.S.takeWhile (· != 0), { s with S := 0 :: s.S.drop ((s.S.takeWhile (· != 0)).length + 1) }) := by
  obtain ⟨e1, _⟩ := while_out h
  have := take_pre (s.S.takeWhile (· != 0)) (0 :: s.S.drop ((s.S.takeWhile (· != 0)).length + 1)) s.T s.N
  rw [← e1] at this
  exact this

/-- What a take that goes well leaves. -/
def TakeIs (w0 : World) (tv nv : Value) (b : Bs) (s : RS) (e : Ending) (w' : World) : Prop := e = .returned (.string ⟨b.toArray⟩) ∧ DAt w0 w' s tv nv
theorem take_is {w0 w : World} {s s1 : RS} {tv nv : Value} {n : Nat} {b : Bs} (hr : rTake n s = some (b, s1)) (hl : s.S.length ≤ 1000000) (hW : DAt w0 w s tv nv) :
    Calls Tryz.prog 106 #[.pointer (some ⟨w0.heap.size, 0, none⟩), .int .i64 n] w (TakeIs w0 tv nv b s1) := by
  refine (take_at w0 w s tv nv n hl hW).mono ?_
  rintro e w' (⟨b', s', h1, h2, h3⟩ | ⟨h1, _⟩)
  · rw [hr] at h1
    obtain ⟨rfl, rfl⟩ := Prod.mk.inj (Option.some.inj h1)
    exact ⟨h2, h3⟩
  · rw [hr] at h1; cases h1

set_option maxRecDepth 100000 in
set_option maxHeartbeats 8000000 in
theorem text_r (w0 w : World) (s : RS) (hl : droom s ≤ 900000) (h : IsD w0 w s) :
    Calls Tryz.prog 74 #[.pointer (some ⟨w0.heap.size, 0, none⟩)] w (DOut w0 (rText s)) := by
  obtain ⟨i0, hi, y0, y1, y2⟩ := info_parts info_str
  obtain ⟨tv, nv, hW⟩ := h
  have c0 := hW.c0
  have HW := Lib.hid hW
  have hSl : s.S.length ≤ 1000000 := by unfold droom at hl; omega
  have hTl : s.T.length ≤ 1000000 := by unfold droom at hl; omega
  clear hW hl
  have HIX := Lib.hid (Tryz.strings_IndexByte ⟨s.S.toArray⟩ 0 w)
  by_cases h0 : (0 : UInt8) ∈ s.S
  · have HR := Lib.hid (show rText s = some { s with S := s.S.drop ((s.S.takeWhile (· != 0)).length + 1), T := s.T ++ [s.S.takeWhile (· != 0)] } from if_pos h0)
    have hix := index_while s.S h0
    rw [show Lib.indexByte (⟨s.S.toArray⟩ : ByteArray).data.toList (0 : Int).toNat.toUInt8 = Lib.indexByte s.S 0 from rfl, hix] at HIX
    have HTK := Lib.hid (fun W (hD : DAt w0 W s tv nv) => take_is (text_parts h0) hSl hD)
    have hwl := while_len s.S
    rw [HR.out]
    obtain ⟨t, ht⟩ : ∃ t, t = s.S.takeWhile (· != 0) := ⟨_, rfl⟩
    rw [← ht] at HTK HIX hwl ⊢
    obtain ⟨S1, hS1⟩ : ∃ S1, S1 = s.S.drop (t.length + 1) := ⟨_, rfl⟩
    have hS1l : S1.length + 1 ≤ 1000000 := by rw [hS1, List.length_drop]; have := List.length_pos_of_mem h0; omega
    rw [← hS1] at HTK ⊢
    obtain ⟨a, c, rfl⟩ := ownsRow_form HW.out.texts
    have htl : (t.length : Int) ≤ 1000000 := by omega
    clear ht hS1 HR hix h0 hwl
    go_enter Tryz.func74, Tryz.ntmps74
    go_wp2_with fail
    refine HIX.out.mono ?_; rintro e w1 ⟨rfl, rfl⟩
    go_wp2_with fail
    refine (demand_ok _).mono ?_; rintro e w2 ⟨rfl, rfl⟩
    go_upto_region 2 with (fail)
    have c1 := HW.out.c1
    obtain ⟨TL, hTL⟩ : ∃ TL : Nat, TL = s.T.length := ⟨_, rfl⟩
    have HTL := Lib.hid hTL
    rw [← hTL] at HTK HW c1 hTl
    clear hTL
    go_region_law (first | (go_simp; go_at_call 106; refine (HTK.out _ HW.out.drew).mono ?_; rintro e w5 ⟨rfl, hW5⟩; have HW5 := Lib.hid hW5; have d1 := hW5.c1; have g1 := hW5.f1; have z5 := hW5.lt; clear hW5) | (refine step_append_own rfl (.tmp 15) (.tmp 19) 36 rfl (w0.heap.size + 1) 9 i0 (.string { data := #[] }) 1 16 Tryz.underlying36 hi y0 y1 y2 rfl (by decide) (.slice a TL c) TL (tcells s.T) (by simp [Act.eval]) (by have := HW5.out.texts.alloc (.cells #[.string ⟨t.toArray⟩] 9); rw [show ({ S := 0 :: S1, T := s.T, N := s.N } : RS).T.length = TL from HTL.out.symm] at this; exact this) ⟨w5.heap.size, 0, none⟩ 1 1 [.string ⟨t.toArray⟩] (by simp [Act.eval]) rfl ?c1 ?c2 ?c3 ?c4 ?c5 ?_; (case c1 => (intro j u h; rw [Go.WideShapes.add_plain, Nat.zero_add, ← h]; exact (World.cell?_alloc_new w5 _ _ j).trans (by simp))); (case c2 => (intro u hu; simp at hu; rcases hu with rfl; rfl)); (case c3 => (unfold maxLen; omega)); (case c4 => omega); (case c5 => (first | omega | (simp; omega))); intro v' w6 hO6 hg6; obtain ⟨a', c', rfl⟩ := ownsRow_form hO6; have HB6 := Lib.hid (HW5.out.grewT hg6); obtain ⟨_, ⟨e2, g2⟩, hz6⟩ := HW5.out.afterN HB6.out; have HP6 := Lib.hid (HW5.out.put1 (T := s.T ++ [t]) HB6.out (by rw [tcells_append, List.length_append, ← HTL.out]; exact hO6) (HW5.out.rowN hg6)); clear hO6 hg6))
    all_goals
      go_wp2_with fail
      refine (take_is (n := 1) (b := [0]) (s1 := { S := S1, T := s.T ++ [t], N := s.N }) (by unfold rTake; rw [if_pos (by show 1 ≤ (0 :: S1).length; simp)]; rfl) (by show (0 :: S1).length ≤ _; rw [List.length_cons]; omega) HP6.out).mono ?_; rintro e w7 ⟨rfl, hW7⟩
      have HW7 := Lib.hid hW7
      clear hW7
      go_wp2_with fail
      go_end0
      exact .inl ⟨_, rfl, rfl, _, _, HW7.out⟩
  · have HR := Lib.hid (show rText s = none from if_neg h0)
    rw [show Lib.indexByte (⟨s.S.toArray⟩ : ByteArray).data.toList (0 : Int).toNat.toUInt8 = Lib.indexByte s.S 0 from rfl, (ib_in s.S).2 h0] at HIX
    rw [HR.out]
    clear h0 HR
    go_enter Tryz.func74, Tryz.ntmps74
    go_wp2_with fail
    refine HIX.out.mono ?_; rintro e w1 ⟨rfl, rfl⟩
    go_wp2_with fail
    refine (demand_no _).mono ?_; rintro e w2 ⟨rfl, rfl⟩
    go_wp2_with fail
    exact ⟨rfl, .inr ⟨rfl, rfl, HW.out.below⟩⟩
end Go.Proofs.YtpijolcklmdjbaaGreatDoor

namespace Go.Proofs.YtpijolcklmdjbaaGreatDoor
open Go.RowKit Go.Lib Go.WideShapes

/-- What a trimming of bytes 0 leaves of l. -/
def TrimOut (l : Bs) (w : World) (e : Ending) (w' : World) : Prop := ∃ r : ByteArray, e = .returned (.string r) ∧ w' = w ∧ r.size ≤ l.length ∧ ((r.size = 0 ∧ ∀ b ∈ l, b = 0) ∨ ((∃ b ∈ bytes r, b ≠ 0) ∧ ∃ b ∈ l, b ≠ 0))
def strLen : Value → Nat
  | .string s => s.size
  | _ => 0
theorem bytes_cut (X : ByteArray) (h : 0 < X.size) : bytes X = bytes (X.extract 0 (X.size - 1)) ++ [X[X.size - 1]'(by omega)] := by
  have hl : (bytes X).length = X.size := blen X
  have e1 : bytes (X.extract 0 (X.size - 1)) = (bytes X).take (X.size - 1) := by
    have hx : X.data.toList.length = X.size := hl
    simp only [bytes, ByteArray.data_extract, Array.toList_extract, List.extract_eq_take_drop, List.drop_zero, Nat.sub_zero]
  rw [e1]
  have h2 : X.size - 1 < (bytes X).length := by omega
  have e2 := List.take_succ_eq_append_getElem h2
  rw [show X.size - 1 + 1 = (bytes X).length by omega, List.take_length] at e2
  exact e2
theorem bytes_behead (X : ByteArray) (h : 0 < X.size) : bytes X = X[0] :: bytes (X.extract 1 X.size) := by
  have hl : (bytes X).length = X.size := blen X
  have e1 : bytes (X.extract 1 X.size) = (bytes X).drop 1 := by
    simp [bytes, ByteArray.data_extract, List.take_of_length_le]
  rw [e1]
  have h2 : 0 < (bytes X).length := by omega
  have e2 := List.drop_eq_getElem_cons h2
  rw [List.drop_zero] at e2
  exact e2
theorem size_cut1 (X : ByteArray) (h : 0 < X.size) : (X.extract 0 (X.size - 1)).size = X.size - 1 := by
  have := congrArg List.length (bytes_cut X h)
  rw [List.length_append, blen, blen, List.length_singleton] at this
  omega
theorem size_behead (X : ByteArray) (h : 0 < X.size) : (X.extract 1 X.size).size = X.size - 1 := by
  have := congrArg List.length (bytes_behead X h)
  rw [List.length_cons, blen, blen] at this
  omega

set_option maxRecDepth 100000 in
set_option maxHeartbeats 8000000 in
theorem trimR_any (s : ByteArray) (w : World) (hs : s.size ≤ 1000000) :
    Calls Tryz.prog 142 #[.string s, .int .u8 0] w (TrimOut (bytes s) w) := by
  go_enter Tryz.func142, Tryz.ntmps142
  go_wp2_with fail
  go_loopw [0, 0] (fun v _ wx => ∃ X : ByteArray, v = .string X ∧ X.size ≤ s.size ∧ (∃ Z : Bs, bytes s = bytes X ++ Z ∧ ∀ b ∈ Z, b = 0) ∧ wx = w) (fun v _ _ => strLen v)
  case atStart => exact ⟨s, rfl, Nat.le_refl _, ⟨[], by simp, by simp⟩, rfl⟩
  case round =>
    obtain ⟨X, rfl, hX, hZ, hwr⟩ := hrel
    subst hwr
    have HZ := Lib.hid hZ
    clear hZ
    by_cases h0 : 0 < X.size
    · have h0' : (0 : Int) < X.size := by omega
      have h1' : (0 : Int) ≤ (X.size : Int) - 1 := by omega
      have hk : ((X.size : Int) - 1).toNat = X.size - 1 := by omega
      have HC := Lib.hid (bytes_cut X h0)
      have HSZ := Lib.hid (size_cut1 X h0)
      have hlt : X.size - 1 < X.size := by omega
      by_cases hb : X[X.size - 1] = 0
      · have hb0 : ((X[X.size - 1].toNat : Int) == 0) = true := by rw [hb]; rfl
        go_wp2_with fail
        go_roundw
        case measure => show (X.extract 0 (X.size - 1)).size < X.size; rw [HSZ.out]; omega
        case rel =>
          obtain ⟨Z, hz1, hz2⟩ := HZ.out
          refine ⟨_, rfl, by rw [HSZ.out]; omega, ⟨[0] ++ Z, ?_, ?_⟩, by trivial⟩
          · rw [hz1, HC.out, hb, List.append_assoc]
          · intro b hbm
            rcases List.mem_append.1 hbm with h | h
            · exact List.mem_singleton.1 h
            · exact hz2 b h
      · have hb0 : ((X[X.size - 1].toNat : Int) == 0) = false := by
          rw [beq_eq_false_iff_ne]; intro e
          exact hb (UInt8.toNat_inj.mp (by have : X[X.size - 1].toNat = 0 := by omega
                                           exact this))
        have HB := Lib.hid hb
        clear hb
        go_wp2_with fail
        go_ret
        obtain ⟨Z, hz1, _⟩ := HZ.out
        have hm : X[X.size - 1] ∈ bytes X := by rw [HC.out]; simp
        exact ⟨X, rfl, rfl, by rw [blen]; exact hX, .inr ⟨⟨_, hm, HB.out⟩, ⟨_, by rw [hz1]; exact List.mem_append_left _ hm, HB.out⟩⟩⟩
    · have hz : X.size = 0 := by omega
      have HZ0 := Lib.hid hz
      have h0' : ¬ (0 : Int) < X.size := by omega
      clear hz
      go_wp2_with fail
      go_ret
      obtain ⟨Z, hz1, hz2⟩ := HZ.out
      have he : bytes X = [] := List.length_eq_zero_iff.1 (by rw [blen]; exact HZ0.out)
      rw [he, List.nil_append] at hz1
      exact ⟨X, rfl, rfl, by rw [blen]; exact hX, .inl ⟨HZ0.out, by rw [hz1]; exact hz2⟩⟩

set_option maxRecDepth 100000 in
set_option maxHeartbeats 8000000 in
theorem trimL_any (s : ByteArray) (w : World) :
    Calls Tryz.prog 141 #[.string s, .int .u8 0] w (TrimOut (bytes s) w) := by
  go_enter Tryz.func141, Tryz.ntmps141
  go_wp2_with fail
  go_loopw [0, 0] (fun v _ wx => ∃ X : ByteArray, v = .string X ∧ X.size ≤ s.size ∧ (∃ Z : Bs, bytes s = Z ++ bytes X ∧ ∀ b ∈ Z, b = 0) ∧ wx = w) (fun v _ _ => strLen v)
  case atStart => exact ⟨s, rfl, Nat.le_refl _, ⟨[], by simp, by simp⟩, rfl⟩
  case round =>
    obtain ⟨X, rfl, hX, hZ, hwr⟩ := hrel
    subst hwr
    have HZ := Lib.hid hZ
    clear hZ
    by_cases h0 : 0 < X.size
    · have h0' : (0 : Int) < X.size := by omega
      have h1 : (1 : Int) ≤ X.size := by omega
      have HC := Lib.hid (bytes_behead X h0)
      have HSZ := Lib.hid (size_behead X h0)
      by_cases hb : X[0] = 0
      · have hb0 : ((X[0].toNat : Int) == 0) = true := by rw [hb]; rfl
        go_wp2_with fail
        go_roundw
        case measure => show (X.extract 1 X.size).size < X.size; rw [HSZ.out]; omega
        case rel =>
          obtain ⟨Z, hz1, hz2⟩ := HZ.out
          refine ⟨_, rfl, by rw [HSZ.out]; omega, ⟨Z ++ [0], ?_, ?_⟩, by trivial⟩
          · rw [hz1, HC.out, hb, List.append_assoc]; rfl
          · intro b hbm
            rcases List.mem_append.1 hbm with h | h
            · exact hz2 b h
            · exact List.mem_singleton.1 h
      · have hb0 : ((X[0].toNat : Int) == 0) = false := by
          rw [beq_eq_false_iff_ne]; intro e
          exact hb (UInt8.toNat_inj.mp (by have : X[0].toNat = 0 := by omega
                                           exact this))
        have HB := Lib.hid hb
        clear hb
        go_wp2_with fail
        go_ret
        obtain ⟨Z, hz1, _⟩ := HZ.out
        have hm : X[0] ∈ bytes X := by rw [HC.out]; exact List.mem_cons_self ..
        exact ⟨X, rfl, rfl, by rw [blen]; exact hX, .inr ⟨⟨_, hm, HB.out⟩, ⟨_, by rw [hz1]; exact List.mem_append_right _ hm, HB.out⟩⟩⟩
    · have hz : X.size = 0 := by omega
      have HZ0 := Lib.hid hz
      have h0' : ¬ (0 : Int) < X.size := by omega
      clear hz
      go_wp2_with fail
      go_ret
      obtain ⟨Z, hz1, hz2⟩ := HZ.out
      have he : bytes X = [] := List.length_eq_zero_iff.1 (by rw [blen]; exact HZ0.out)
      rw [he, List.append_nil] at hz1
      exact ⟨X, rfl, rfl, by rw [blen]; exact hX, .inl ⟨HZ0.out, by rw [hz1]; exact hz2⟩⟩

/-- What Trim leaves of l. -/
def TrimAll (l : Bs) (w : World) (e : Ending) (w' : World) : Prop := ∃ r : ByteArray, e = .returned (.string r) ∧ (r.size = 0 ↔ ∀ b ∈ l, b = 0) ∧ Below w.heap.size w w'
set_option maxRecDepth 100000 in
set_option maxHeartbeats 8000000 in
theorem trim_any (s : ByteArray) (w : World) (h0 : 0 < s.size) (hs : s.size ≤ 1000000) :
    Calls Tryz.prog 108 #[.string s, .string { data := #[0] }] w (TrimAll (bytes s) w) := by
  have hne : (s.toList == ([] : List UInt8)) = false := by
    rw [toList_eq, beq_eq_false_iff_ne]; intro e
    have h1 : (bytes s).length = s.size := blen s
    rw [show bytes s = [] from e] at h1
    have h2 : ([] : Bs).length = 0 := rfl
    omega
  go_enter Tryz.func108, Tryz.ntmps108
  go_upto_region 4 with (fail)
  go_region_with (first | (go_at_call 142; refine (trimR_any s _ hs).mono ?_; rintro e w5 ⟨r, rfl, rfl, hrl, hr⟩; have HRL := Lib.hid hrl; have HR := Lib.hid hr; clear hrl hr) | (go_at_call 141; refine (trimL_any r _).mono ?_; rintro e w6 ⟨q, rfl, rfl, hql, hq⟩; have HQL := Lib.hid hql; have HQ := Lib.hid hq; clear hql hq))
  all_goals
    go_wp2_with fail
    go_ret
    refine ⟨q, rfl, ?_, (Below.refl _ _).drew⟩
    rcases HR.out with ⟨e1, e2⟩ | ⟨⟨b, e1, e1'⟩, c, e2, e2'⟩
    · have hq0 : q.size = 0 := by have := HQL.out; rw [blen] at this; omega
      exact ⟨fun _ => e2, fun _ => hq0⟩
    · rcases HQ.out with ⟨g1, g2⟩ | ⟨⟨d, g1, g1'⟩, _⟩
      · exact absurd (g2 b e1) e1'
      · constructor
        · intro h
          have : bytes q = [] := List.length_eq_zero_iff.1 (by rw [blen]; exact h)
          rw [this] at g1; cases g1
        · intro h; exact absurd (h c e2) e2'
end Go.Proofs.YtpijolcklmdjbaaGreatDoor
