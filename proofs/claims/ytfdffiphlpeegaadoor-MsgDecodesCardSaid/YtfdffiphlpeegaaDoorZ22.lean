/- Contracts and mathematics: DField, MShown, MAs, MOpen, MFew. -/
import Derived.Test.YtfdffiphlpeegaaDoorZ21
import Derived.Test.YtfdffiphlpeegaaDoorZ14
import Derived.Test.YtfdffiphlpeegaaDoorZ7
import Derived.Deep.SlicePairs
import Derived.SliceStrings
import Derived.ChangeSlices
import Derived.Lib.SmallJoins
namespace Go.Proofs.YtfdffiphlpeegaaDoor
open Go.RowKit Go.Lib Go.WideShapes

set_option maxRecDepth 100000 in
set_option maxHeartbeats 4000000 in
theorem dfield_115 (w0 w : World) (s : RS) (hr : droom s ≤ 850000) (h : IsD w0 w s) :
    Calls Tryd.prog 25 #[.pointer (some ⟨w0.heap.size, 0, none⟩), .int .u8 115] w (DOut w0 (rText s)) := by
  have HN := Lib.hid (text_r w0 w s (by omega) h)
  obtain ⟨R, hR⟩ : ∃ R, R = rText s := ⟨_, rfl⟩
  rw [← hR] at HN ⊢
  clear hR h hr
  go_enter Tryd.func25, Tryd.ntmps25
  go_wp2_with fail
  refine HN.out.mono ?_; rintro e w1 (⟨s1, hs, rfl, hW⟩ | ⟨hs, rfl, hB⟩)
  · have HS := Lib.hid hs; have HW := Lib.hid hW
    clear hs hW
    go_wp2_with fail
    go_end0
    exact .inl ⟨s1, HS.out, rfl, HW.out⟩
  · have HS := Lib.hid hs
    clear hs
    go_wp2_with fail
    exact ⟨rfl, .inr ⟨HS.out, rfl, hB⟩⟩

set_option maxRecDepth 100000 in
set_option maxHeartbeats 4000000 in
theorem dfield_105 (w0 w : World) (s : RS) (hr : droom s ≤ 850000) (h : IsD w0 w s) :
    Calls Tryd.prog 25 #[.pointer (some ⟨w0.heap.size, 0, none⟩), .int .u8 105] w (DOut w0 (rLong s)) := by
  have HN := Lib.hid (long_r w0 w s (by omega) h)
  obtain ⟨R, hR⟩ : ∃ R, R = rLong s := ⟨_, rfl⟩
  rw [← hR] at HN ⊢
  clear hR h hr
  go_enter Tryd.func25, Tryd.ntmps25
  go_wp2_with fail
  refine HN.out.mono ?_; rintro e w1 (⟨s1, hs, rfl, hW⟩ | ⟨hs, rfl, hB⟩)
  · have HS := Lib.hid hs; have HW := Lib.hid hW
    clear hs hW
    go_wp2_with fail
    go_end0
    exact .inl ⟨s1, HS.out, rfl, HW.out⟩
  · have HS := Lib.hid hs
    clear hs
    go_wp2_with fail
    exact ⟨rfl, .inr ⟨HS.out, rfl, hB⟩⟩

set_option maxRecDepth 100000 in
set_option maxHeartbeats 4000000 in
theorem dfield_112 (w0 w : World) (s : RS) (hr : droom s ≤ 850000) (h : IsD w0 w s) :
    Calls Tryd.prog 25 #[.pointer (some ⟨w0.heap.size, 0, none⟩), .int .u8 112] w (DOut w0 (rPairs s)) := by
  have HN := Lib.hid (pairs_r w0 w s hr h)
  obtain ⟨R, hR⟩ : ∃ R, R = rPairs s := ⟨_, rfl⟩
  rw [← hR] at HN ⊢
  clear hR h hr
  go_enter Tryd.func25, Tryd.ntmps25
  go_wp2_with fail
  refine HN.out.mono ?_; rintro e w1 (⟨s1, hs, rfl, hW⟩ | ⟨hs, rfl, hB⟩)
  · have HS := Lib.hid hs; have HW := Lib.hid hW
    clear hs hW
    go_wp2_with fail
    go_end0
    exact .inl ⟨s1, HS.out, rfl, HW.out⟩
  · have HS := Lib.hid hs
    clear hs
    go_wp2_with fail
    exact ⟨rfl, .inr ⟨HS.out, rfl, hB⟩⟩

set_option maxRecDepth 100000 in
set_option maxHeartbeats 4000000 in
theorem dfield_102 (w0 w : World) (s : RS) (hr : droom s ≤ 850000) (h : IsD w0 w s) :
    Calls Tryd.prog 25 #[.pointer (some ⟨w0.heap.size, 0, none⟩), .int .u8 102] w (DOut w0 (rFields s)) := by
  have HN := Lib.hid (fields_r w0 w s hr h)
  obtain ⟨R, hR⟩ : ∃ R, R = rFields s := ⟨_, rfl⟩
  rw [← hR] at HN ⊢
  clear hR h hr
  go_enter Tryd.func25, Tryd.ntmps25
  go_wp2_with fail
  refine HN.out.mono ?_; rintro e w1 (⟨s1, hs, rfl, hW⟩ | ⟨hs, rfl, hB⟩)
  · have HS := Lib.hid hs; have HW := Lib.hid hW
    clear hs hW
    go_wp2_with fail
    go_end0
    exact .inl ⟨s1, HS.out, rfl, HW.out⟩
  · have HS := Lib.hid hs
    clear hs
    go_wp2_with fail
    exact ⟨rfl, .inr ⟨HS.out, rfl, hB⟩⟩

set_option maxRecDepth 100000 in
set_option maxHeartbeats 4000000 in
theorem dfield_99 (w0 w : World) (s : RS) (hr : droom s ≤ 850000) (h : IsD w0 w s) :
    Calls Tryd.prog 25 #[.pointer (some ⟨w0.heap.size, 0, none⟩), .int .u8 99] w (DOut w0 (rCounted rShort s)) := by
  have HN := Lib.hid (counted_short_r w0 w s rShort (fun W s hs h => short_r w0 W s hs h) nar_short hr h)
  obtain ⟨R, hR⟩ : ∃ R, R = rCounted rShort s := ⟨_, rfl⟩
  rw [← hR] at HN ⊢
  clear hR h hr
  go_enter Tryd.func25, Tryd.ntmps25
  go_wp2_with fail
  refine HN.out.mono ?_; rintro e w1 (⟨s1, hs, rfl, hW⟩ | ⟨hs, rfl, hB⟩)
  · have HS := Lib.hid hs; have HW := Lib.hid hW
    clear hs hW
    go_wp2_with fail
    go_end0
    exact .inl ⟨s1, HS.out, rfl, HW.out⟩
  · have HS := Lib.hid hs
    clear hs
    go_wp2_with fail
    exact ⟨rfl, .inr ⟨HS.out, rfl, hB⟩⟩

set_option maxRecDepth 100000 in
set_option maxHeartbeats 4000000 in
theorem dfield_108 (w0 w : World) (s : RS) (hr : droom s ≤ 850000) (h : IsD w0 w s) :
    Calls Tryd.prog 25 #[.pointer (some ⟨w0.heap.size, 0, none⟩), .int .u8 108] w (DOut w0 (rCounted rLong s)) := by
  have HN := Lib.hid (counted_long_r w0 w s rLong (fun W s hs h => long_r w0 W s hs h) nar_long hr h)
  obtain ⟨R, hR⟩ : ∃ R, R = rCounted rLong s := ⟨_, rfl⟩
  rw [← hR] at HN ⊢
  clear hR h hr
  go_enter Tryd.func25, Tryd.ntmps25
  go_wp2_with fail
  refine HN.out.mono ?_; rintro e w1 (⟨s1, hs, rfl, hW⟩ | ⟨hs, rfl, hB⟩)
  · have HS := Lib.hid hs; have HW := Lib.hid hW
    clear hs hW
    go_wp2_with fail
    go_end0
    exact .inl ⟨s1, HS.out, rfl, HW.out⟩
  · have HS := Lib.hid hs
    clear hs
    go_wp2_with fail
    exact ⟨rfl, .inr ⟨HS.out, rfl, hB⟩⟩

set_option maxRecDepth 100000 in
set_option maxHeartbeats 4000000 in
theorem dfield_118 (w0 w : World) (s : RS) (hr : droom s ≤ 850000) (h : IsD w0 w s) :
    Calls Tryd.prog 25 #[.pointer (some ⟨w0.heap.size, 0, none⟩), .int .u8 118] w (DOut w0 (rCounted rValue s)) := by
  have HN := Lib.hid (counted_value_r w0 w s rValue (fun W s hs h => value_r w0 W s hs h) nar_value hr h)
  obtain ⟨R, hR⟩ : ∃ R, R = rCounted rValue s := ⟨_, rfl⟩
  rw [← hR] at HN ⊢
  clear hR h hr
  go_enter Tryd.func25, Tryd.ntmps25
  go_wp2_with fail
  refine HN.out.mono ?_; rintro e w1 (⟨s1, hs, rfl, hW⟩ | ⟨hs, rfl, hB⟩)
  · have HS := Lib.hid hs; have HW := Lib.hid hW
    clear hs hW
    go_wp2_with fail
    go_end0
    exact .inl ⟨s1, HS.out, rfl, HW.out⟩
  · have HS := Lib.hid hs
    clear hs
    go_wp2_with fail
    exact ⟨rfl, .inr ⟨HS.out, rfl, hB⟩⟩

set_option maxRecDepth 100000 in
set_option maxHeartbeats 4000000 in
theorem dfield_109 (w0 w : World) (s : RS) (hr : droom s ≤ 850000) (h : IsD w0 w s) :
    Calls Tryd.prog 25 #[.pointer (some ⟨w0.heap.size, 0, none⟩), .int .u8 109] w (DOut w0 (rCounted rName s)) := by
  have HN := Lib.hid (counted_name_r w0 w s rName (fun W s hs h => name_r w0 W s hs h) nar_name hr h)
  obtain ⟨R, hR⟩ : ∃ R, R = rCounted rName s := ⟨_, rfl⟩
  rw [← hR] at HN ⊢
  clear hR h hr
  go_enter Tryd.func25, Tryd.ntmps25
  go_wp2_with fail
  refine HN.out.mono ?_; rintro e w1 (⟨s1, hs, rfl, hW⟩ | ⟨hs, rfl, hB⟩)
  · have HS := Lib.hid hs; have HW := Lib.hid hW
    clear hs hW
    go_wp2_with fail
    go_end0
    exact .inl ⟨s1, HS.out, rfl, HW.out⟩
  · have HS := Lib.hid hs
    clear hs
    go_wp2_with fail
    exact ⟨rfl, .inr ⟨HS.out, rfl, hB⟩⟩

set_option maxRecDepth 100000 in
set_option maxHeartbeats 4000000 in
theorem dfield_98 (w0 w : World) (s : RS) (hr : droom s ≤ 850000) (h : IsD w0 w s) :
    Calls Tryd.prog 25 #[.pointer (some ⟨w0.heap.size, 0, none⟩), .int .u8 98] w (DOut w0 (rByte s)) := by
  have HU := Lib.hid (unsigned_any w0 w s 1 (by decide) (by unfold droom at hr; omega) h)
  have HUO := Lib.hid (show ∀ n s', rUnsigned 1 s = some (n, s') → s'.N.length ≤ 1000000 from by
    intro n s' e
    unfold rUnsigned at e
    cases hy : rTake 1 s with
    | none => rw [hy] at e; cases e
    | some p =>
      obtain ⟨b, s1⟩ := p
      rw [hy] at e
      simp only [Option.map_some, Option.some.injEq, Prod.mk.injEq] at e
      obtain ⟨_, rfl⟩ := e
      rw [(take_out hy).2.2.2]
      unfold droom at hr; omega)
  unfold rByte
  generalize rUnsigned 1 s = U at HU HUO ⊢
  clear h hr
  go_enter Tryd.func25, Tryd.ntmps25
  go_wp2_with fail
  refine HU.out.mono ?_; rintro e w2 (⟨n, s1, rfl, rfl, hI⟩ | ⟨rfl, rfl, hB⟩)
  · have hN1 := HUO.out n s1 rfl
    have HI2 := Lib.hid hI
    clear hI
    go_wp2_with fail
    refine (keep_any w0 w2 s1 n hN1 HI2.out).mono ?_; rintro e w3 (⟨s2, h2, rfl, hI⟩ | ⟨h2, _, _⟩)
    case inr => cases h2
    obtain rfl := Option.some.inj h2
    have HI3 := Lib.hid hI
    clear hI h2
    go_wp2_with fail
    go_end0
    exact .inl ⟨_, rfl, rfl, HI3.out⟩
  · go_wp2_with fail
    exact ⟨rfl, .inr ⟨rfl, rfl, hB⟩⟩

theorem dfield_any (w0 w : World) (s : RS) (c : UInt8) (hc : letter c = true) (hr : droom s ≤ 850000) (h : IsD w0 w s) :
    Calls Tryd.prog 25 #[.pointer (some ⟨w0.heap.size, 0, none⟩), .int .u8 (c.toNat : Nat)] w (DOut w0 (rField c s)) := by
  have hm : c = 115 ∨ c = 98 ∨ c = 105 ∨ c = 112 ∨ c = 102 ∨ c = 99 ∨ c = 108 ∨ c = 118 ∨ c = 109 := by
    simpa [letter] using hc
  rcases hm with rfl | rfl | rfl | rfl | rfl | rfl | rfl | rfl | rfl
  · exact dfield_115 w0 w s hr h
  · exact dfield_98 w0 w s hr h
  · exact dfield_105 w0 w s hr h
  · exact dfield_112 w0 w s hr h
  · exact dfield_102 w0 w s hr h
  · exact dfield_99 w0 w s hr h
  · exact dfield_108 w0 w s hr h
  · exact dfield_118 w0 w s hr h
  · exact dfield_109 w0 w s hr h
end Go.Proofs.YtfdffiphlpeegaaDoor

namespace Go.Proofs.YtfdffiphlpeegaaDoor
open Go.RowKit Go.Lib Go.WideShapes

set_option maxRecDepth 100000 in
set_option maxHeartbeats 8000000 in
theorem shown_any (w : World) : Calls Tryd.prog 8 #[] w fun e w' => e = .returned (.bool true) ∧ Below w.heap.size w w' := by
  obtain ⟨W0, hW0⟩ : ∃ x, x = w.alloc (.cells #[.string { data := #[97] }, .string { data := #[98] }] 9) := ⟨_, rfl⟩
  have hsz : W0.heap.size = w.heap.size + 1 := by rw [hW0]; simp
  have HB := Lib.hid (show Below w.heap.size w W0 by rw [hW0]; exact (Below.refl _ _).alloc (Nat.le_refl _) _)
  have hT : TextsIn W0 (.slice (some ⟨w.heap.size, 0, none⟩) 2 2) [[97], [98]] := by
    refine ⟨_, 2, 2, rfl, rfl, Nat.le_refl _, by omega, .inr ⟨_, 0, rfl, by rw [hsz]; omega, ?_⟩⟩
    intro i t ht
    rw [hW0]
    match i, ht with
    | 0, ht => obtain rfl := Option.some.inj ht; simp [go_sem]
    | 1, ht => obtain rfl := Option.some.inj ht; simp [go_sem]
  have HF := Lib.hid (encode_any W0 true 83 [[97], [98]] [] _ (.slice none 0 0) hT ⟨none, 0, 0, rfl, rfl, Nat.le_refl _, by omega, .inl rfl⟩ (by decide))
  have hR : written true 83 [[97], [98]] [] = some [97, 0, 98, 0] := by decide
  rw [hR] at HF
  have HF := Lib.hid (show Calls Tryd.prog 15 #[.bool true, .agg #[.int .u8 83, .slice (some ⟨w.heap.size, 0, none⟩) 2 2, .slice none 0 0]] W0 fun e w' => e = .returned (.tuple #[.agg #[.int .u8 83, .string { data := #[97, 0, 98, 0] }], .int .i64 0]) ∧ Below W0.heap.size W0 w' from HF.out)
  have HE := Lib.hid hW0
  have HSZ := Lib.hid hsz
  clear hW0 hsz hR hT
  go_enter Tryd.func8, Tryd.ntmps8
  go_wp2_with fail
  rw [← HE.out]
  refine HF.out.mono ?_; rintro e w1 ⟨rfl, hB1⟩
  have HB1 := Lib.hid (HB.out.trans (hB1.mono (by rw [HSZ.out]; omega)))
  clear hB1
  go_wp2_with fail
  go_ret
  exact ⟨rfl, HB1.out.alloc (by exact HB1.out.size) _⟩
end Go.Proofs.YtfdffiphlpeegaaDoor

namespace Go.Proofs.YtfdffiphlpeegaaDoor
open Go.RowKit Go.Lib Go.WideShapes

set_option maxRecDepth 100000 in
set_option maxHeartbeats 4000000 in
theorem as_any (w : World) (k : Int) (ta na : Option Addr) (tn tc nn nc : Nat) :
    Calls Tryd.prog 13 #[.agg #[.int .u8 k, .slice ta tn tc, .slice na nn nc]] w fun e w' => e = .returned (.agg #[.int .u8 k, .slice ta tn tc, .slice na nn nc]) ∧ Below w.heap.size w w' := by
  go_enter Tryd.func13, Tryd.ntmps13
  go_wp2_with fail
  simp [bodyPost, results, Tryd.results13, go_sem]
  first | exact ((Below.refl _ _).alloc (Nat.le_refl _) _).drew | exact ((Below.refl _ _).alloc (Nat.le_refl _) _).alloc (by simp) _ | exact ((((Below.refl _ _).alloc (Nat.le_refl _) _).alloc (by simp) _).setCell (by simp) _) | exact (((((Below.refl _ _).alloc (Nat.le_refl _) _).alloc (by simp) _).setCell (by simp) _).setCell (by simp) _) | exact ((((((Below.refl _ _).alloc (Nat.le_refl _) _).alloc (by simp) _).setCell (by simp) _).setCell (by simp) _).setCell (by simp) _)

set_option maxRecDepth 100000 in
set_option maxHeartbeats 4000000 in
theorem asframe_any (w : World) (k : Int) (s : ByteArray) :
    Calls Tryd.prog 11 #[.agg #[.int .u8 k, .string s]] w fun e w' => e = .returned (.agg #[.int .u8 k, .string s]) ∧ Below w.heap.size w w' := by
  go_enter Tryd.func11, Tryd.ntmps11
  go_wp2_with fail
  simp [bodyPost, results, Tryd.results11, go_sem]
  first | exact ((Below.refl _ _).alloc (Nat.le_refl _) _).drew | exact ((Below.refl _ _).alloc (Nat.le_refl _) _).alloc (by simp) _ | exact ((((Below.refl _ _).alloc (Nat.le_refl _) _).alloc (by simp) _).setCell (by simp) _) | exact (((((Below.refl _ _).alloc (Nat.le_refl _) _).alloc (by simp) _).setCell (by simp) _).setCell (by simp) _) | exact ((((((Below.refl _ _).alloc (Nat.le_refl _) _).alloc (by simp) _).setCell (by simp) _).setCell (by simp) _).setCell (by simp) _)
end Go.Proofs.YtfdffiphlpeegaaDoor

namespace Go.Proofs.YtfdffiphlpeegaaDoor
open Go.RowKit Go.Lib Go.WideShapes Go.ChangeShapes Go.ChangeAt Go.Joins

theorem weightsAll_mem' {H : Type} {P : Program} {e : TypeId} : ∀ {l : List (DataW H)} {d : DataW H}, d ∈ l → ∀ n ∈ d.weights P e, n ∈ DataW.weightsAll P e l
  | d' :: r, d, hd, n, hn => by
    simp only [DataW.weightsAll, List.mem_append]
    rcases List.mem_cons.1 hd with rfl | h
    · exact .inl hn
    · exact .inr (weightsAll_mem' h n hn)

theorem open_textsIn {H : Type} {enc : TypeId × Value → H} {w : World} {fuel : Nat} {v : Value} {y : DataW H × List MemPlace} (hf : DataW.trod enc Tryd.prog w 0 (fun _ => true) true fuel 25 [v] = some y) :
    ∃ T, TextsIn w v T ∧ ∀ t ∈ T, t.length ∈ y.1.weights Tryd.prog 25 := by
  rcases open_strings Tryd.underlying25 Tryd.underlying9 (by kernel_rfl) hf with ⟨h0, _⟩ | ⟨a', len', cap', ss, hcs, _, hl, hmx, hz, hd, hcell, hw⟩
  · simp at h0
    subst h0
    exact ⟨[], ⟨none, 0, 0, rfl, rfl, Nat.le_refl _, by omega, .inl rfl⟩, fun t ht => by cases ht⟩
  · simp only [List.cons.injEq, and_true] at hcs
    subst hcs
    have hz' : ss.length = cap' := by rw [hz]; simp
    refine ⟨(ss.take len').map bytes, ⟨_, len', cap', rfl, by rw [List.length_map, List.length_take]; omega, hl, by unfold maxLen at hmx; omega, ?_⟩, ?_⟩
    · by_cases h0 : len' = 0
      · subst h0; exact .inl rfl
      right
      obtain ⟨b, off, spot⟩ := a'
      have hs0 := hcell 0 (by omega)
      have hspot : spot = none := by simpa [Addr.add] using World.cell?_spot hs0
      subst hspot
      refine ⟨b, off, rfl, World.block_lt_of_cell? w ((⟨b, off, none⟩ : Addr).add 0) hs0, fun i t ht => ?_⟩
      rw [List.getElem?_map] at ht
      by_cases hi : i < len'
      · rw [List.getElem?_take_of_lt hi, List.getElem?_eq_getElem (show i < ss.length by omega)] at ht
        obtain rfl := Option.some.inj ht
        have := hcell i (by omega)
        rw [Go.WideShapes.add_plain] at this
        rw [this]
        have e : ss.getD i ByteArray.empty = ss[i]'(by omega) := by simp [List.getD, List.getElem?_eq_getElem (show i < ss.length by omega)]
        rw [e]
      · rw [List.getElem?_eq_none (by rw [List.length_take]; omega)] at ht; cases ht
    · intro t ht
      obtain ⟨s, hs, rfl⟩ := List.mem_map.1 ht
      rw [hd, blen]
      simp only [DataW.weights, Tryd.underlying25, List.mem_cons, List.mem_append]
      refine .inr (.inl (weightsAll_mem' (d := .lit (.string s.data.toList)) (List.mem_map.2 ⟨s, hs, rfl⟩) _ ?_))
      rw [DataW.weights]
      simp

theorem open_numsIn {H : Type} {enc : TypeId × Value → H} {w : World} {fuel : Nat} {v : Value} {y : DataW H × List MemPlace} (hf : DataW.trod enc Tryd.prog w 0 (fun _ => true) true fuel 26 [v] = some y) :
    ∃ N, NumsIn w v N ∧ ∀ n ∈ N, -9223372036854775808 ≤ n ∧ n ≤ 9223372036854775807 := by
  rcases open_ints Tryd.underlying26 Tryd.underlying3 (by kernel_rfl) hf with ⟨h0, _⟩ | ⟨a', len', cap', zs, hcs, _, hl, hmx, hz, hd, hcell, hw⟩
  · simp at h0
    subst h0
    exact ⟨[], ⟨none, 0, 0, rfl, rfl, Nat.le_refl _, by omega, .inl rfl⟩, fun t ht => by cases ht⟩
  · simp only [List.cons.injEq, and_true] at hcs
    subst hcs
    have hz' : zs.length = cap' := by rw [hz]; simp
    refine ⟨zs.take len', ⟨_, len', cap', rfl, by rw [List.length_take]; omega, hl, by unfold maxLen at hmx; omega, ?_⟩, fun n hn => int_range (hw n (List.mem_of_mem_take hn))⟩
    by_cases h0 : len' = 0
    · subst h0; exact .inl rfl
    right
    obtain ⟨b, off, spot⟩ := a'
    have hs0 := hcell 0 (by omega)
    have hspot : spot = none := by simpa [Addr.add] using World.cell?_spot hs0
    subst hspot
    refine ⟨b, off, rfl, World.block_lt_of_cell? w ((⟨b, off, none⟩ : Addr).add 0) hs0, fun i t ht => ?_⟩
    by_cases hi : i < len'
    · rw [List.getElem?_take_of_lt hi, List.getElem?_eq_getElem (show i < zs.length by omega)] at ht
      obtain rfl := Option.some.inj ht
      have := hcell i (by omega)
      rw [Go.WideShapes.add_plain] at this
      rw [this]
      have e : zs.getD i 0 = zs[i]'(by omega) := by simp [List.getD, List.getElem?_eq_getElem (show i < zs.length by omega)]
      rw [e]
    · rw [List.getElem?_eq_none (by rw [List.length_take]; omega)] at ht; cases ht

theorem byte_in {z : Int} (h : (Lit.int .u8 z).wf = true) : 0 ≤ z ∧ z < 256 := by
  have hmin : IntKind.u8.min = 0 := rfl
  have hmax : IntKind.u8.max = 255 := rfl
  simp only [Lit.wf, Bool.and_eq_true, decide_eq_true_eq] at h
  omega
theorem byte_form {z : Int} (h : (Lit.int .u8 z).wf = true) : ∃ c : UInt8, z = (c.toNat : Nat) := by
  have hz := byte_in h
  refine ⟨UInt8.ofNat z.toNat, ?_⟩
  rw [UInt8.toNat_ofNat', Nat.mod_eq_of_lt (by omega)]
  omega
set_option maxRecDepth 100000 in
theorem open_msg {H : Type} {enc : TypeId × Value → H} {w : World} {r : Reach} {b0 : Nat} {v : Value} {d : DataW H} {p : List MemPlace} (hv : Value.okWide Tryd.prog w r b0 28 v) (h : DataW.Trod enc Tryd.prog w 0 (fun _ => true) true 28 v d p) :
    ∃ (c : UInt8) (tv nv : Value) (T : List Bs) (N : List Int), v = .agg #[.int .u8 (c.toNat : Nat), tv, nv] ∧ TextsIn w tv T ∧ NumsIn w nv N ∧ (∀ t ∈ T, t.length ∈ d.weights Tryd.prog 28) ∧ (∀ n ∈ N, -9223372036854775808 ≤ n ∧ n ≤ 9223372036854775807) := by
  obtain ⟨v0, v1, v2, y0, y1, y2, n, rfl, hd, _, h0, h1, h2⟩ := open_agg3 Tryd.underlying28 (by kernel_rfl) (by kernel_rfl) hv h
  obtain ⟨z, e0, _, wz⟩ := DataW.trod_int Tryd.underlying5 h0
  simp at e0
  subst e0
  obtain ⟨c, rfl⟩ := byte_form wz
  obtain ⟨T, hT, hw⟩ := open_textsIn h1
  obtain ⟨N, hN, hr⟩ := open_numsIn h2
  refine ⟨c, v1, v2, T, N, rfl, hT, hN, fun t ht => ?_, hr⟩
  have := hw t ht
  rw [hd]
  simp only [DataW.weights, Tryd.underlying28, DataW.weightsEach, List.map_cons, List.map_nil, List.mem_append]
  exact .inr (.inl this)
end Go.Proofs.YtfdffiphlpeegaaDoor

namespace Go.Proofs.YtfdffiphlpeegaaDoor
open Go.RowKit Go.Lib Go.WideShapes

def wsum (T : List Bs) : Nat := (T.map fun t => t.length + 1).sum
theorem wsum_next {T : List Bs} {j : Nat} (h : j < T.length) : wsum (T.take (j + 1)) = wsum (T.take j) + (T[j].length + 1) := by
  unfold wsum
  rw [List.take_succ_eq_append_getElem h, List.map_append, List.sum_append]
  rfl
theorem wsum_split (T : List Bs) (j : Nat) : wsum T = wsum (T.take j) + wsum (T.drop j) := by
  unfold wsum
  rw [← List.sum_append, ← List.map_append, List.take_append_drop]
def fewB (T : List Bs) (N : List Int) : Bool := decide (wsum T + N.length < 3000)
theorem sum19_le : ∀ T : List Bs, (T.map fun t => t.length + 19).sum ≤ 19 * wsum T
  | [] => Nat.le_refl _
  | t :: T => by
    have := sum19_le T
    unfold wsum at this ⊢
    simp only [List.map_cons, List.sum_cons]
    omega
theorem room_few {T : List Bs} {N : List Int} (h : wsum T + N.length < 3000) : room ⟨T, N, []⟩ ≤ 800000 := by
  have := sum19_le T
  unfold room
  show 0 + ((T.map fun t => t.length + 19).sum + 4 * N.length) ≤ _
  omega

set_option maxRecDepth 100000 in
set_option maxHeartbeats 8000000 in
theorem few_any (w : World) (c : UInt8) (T : List Bs) (N : List Int) (tv nv : Value) (hT : TextsIn w tv T) (hN : NumsIn w nv N) (hz : ∀ t ∈ T, t.length ≤ 140737488351232) :
    Calls Tryd.prog 14 #[.agg #[.int .u8 (c.toNat : Nat), tv, nv]] w fun e w' => e = .returned (.bool (fewB T N)) ∧ Below w.heap.size w w' := by
  obtain ⟨at', nt, ct, rfl, hlt, hct, hct2, hTc⟩ := hT
  obtain ⟨an, nn, cn, rfl, hln, hcn, hcn2, _⟩ := hN
  obtain ⟨W0, hW0⟩ : ∃ x, x = w.alloc (.cells #[.int .u8 (c.toNat : Nat), .slice at' nt ct, .slice an nn cn] 28) := ⟨_, rfl⟩
  have HB := Lib.hid (show Below w.heap.size w W0 by rw [hW0]; exact (Below.refl _ _).alloc (Nat.le_refl _) _)
  have k1 : W0.cell? ⟨w.heap.size, 1, none⟩ = some (.slice at' nt ct) := by rw [hW0]; simp [go_sem]
  have k2 : W0.cell? ⟨w.heap.size, 2, none⟩ = some (.slice an nn cn) := by rw [hW0]; simp [go_sem]
  have HZ := Lib.hid hz
  have HC := Lib.hid hTc
  have HE := Lib.hid hW0
  have HLT := Lib.hid hlt
  have HLN := Lib.hid hln
  have hnn : (nn : Int) ≤ 9223372036854775807 := by omega
  clear hW0 hz hTc hlt hln
  go_enter Tryd.func14, Tryd.ntmps14
  go_wp2_with fail
  rw [← HE.out]
  go_loopw [3, 4] (fun n i wx => ∃ j k : Nat, j ≤ nt ∧ i = .int .i64 j ∧ n = .int .i64 k ∧ k = nn + wsum (T.take j) ∧ (k : Int) ≤ 9223372036854775807 ∧ wx = W0) (fun _ i _ => nt - (RowKit.intOf i).toNat)
  case atStart => exact ⟨0, nn, Nat.zero_le _, rfl, rfl, rfl, hnn, rfl⟩
  case round =>
    obtain ⟨j, k, hj, rfl, rfl, hk, hk2, rfl⟩ := hrel
    have HK := Lib.hid hk
    clear hk
    by_cases hlt : j < nt
    · have hlt' : (j : Int) < nt := by omega
      by_cases hk3 : k < 3000
      · have hk3' : (k : Int) < 3000 := by omega
        have hjT : j < T.length := by rw [HLT.out]; exact hlt
        obtain ⟨g, off, rfl, hg, hcell⟩ : ∃ g off, at' = some ⟨g, off, none⟩ ∧ g < w.heap.size ∧ ∀ (i : Nat) (t : Bs), T[i]? = some t → w.cell? ⟨g, off + i, none⟩ = some (.string ⟨t.toArray⟩) := by
          rcases HC.out with h | h
          · rw [h] at hjT; cases hjT
          · exact h
        have d0 := (HB.out.cell (p := ⟨g, off + j, none⟩) hg).trans (hcell j _ (List.getElem?_eq_getElem hjT))
        have hsz := HZ.out _ (List.getElem_mem hjT)
        have HX := Lib.hid (wsum_next hjT)
        generalize T[j] = t at d0 hsz HX
        have HS := Lib.hid (bsize t)
        generalize (⟨t.toArray⟩ : ByteArray) = s at d0 HS
        have hsz2 : s.size ≤ 140737488351232 := by rw [HS.out]; exact hsz
        clear hcell hjT hsz
        go_wp2_with fail
        go_roundw
        case measure => first | omega | (simp [RowKit.intOf]; omega)
        case rel => exact ⟨j + 1, k + 1 + s.size, by omega, by go_num, by go_num, by rw [HX.out, HK.out, HS.out]; omega, by omega, trivial⟩
      · have hk3' : ¬ (k : Int) < 3000 := by omega
        go_wp2_with fail
        go_ret
        have h2 := HK.out
        have h3 := wsum_split T j
        have hr : fewB T N = false := decide_eq_false (by rw [HLN.out]; omega)
        exact ⟨by rw [hr]; rfl, HB.out⟩
    · have hlt' : ¬ (j : Int) < nt := by omega
      have hjn : j = nt := by omega
      go_wp2_with fail
      go_ret
      have h2 := HK.out
      rw [hjn, ← HLT.out, List.take_length] at h2
      have hr : fewB T N = decide ((k : Int) < 3000) := by
        unfold fewB
        rw [HLN.out]
        by_cases h3 : k < 3000
        · rw [decide_eq_true (by omega), decide_eq_true (by omega)]
        · rw [decide_eq_false (by omega), decide_eq_false (by omega)]
      exact ⟨by rw [hr]; rfl, HB.out⟩
end Go.Proofs.YtfdffiphlpeegaaDoor
