/- A message among the arguments, opened to its cells. -/
import Derived.Test.YtfdffiphlpeegaaDoorMAs
import Derived.Deep.SlicePairs
import Derived.SliceStrings
import Derived.ChangeSlices
import Derived.Lib.SmallJoins
namespace Go.Proofs.YtfdffiphlpeegaaDoor
open Go.RowKit Go.Lib Go.WideShapes Go.ChangeShapes Go.ChangeAt Go.Joins

theorem weightsAll_mem' {H : Type} {P : Program} {e : TypeId} : ∀ {l : List (DataW H)} {d : DataW H}, d ∈ l → ∀ n ∈ d.weights P e, n ∈ DataW.weightsAll P e l
  | d' :: r, d, hd, n, hn => by
    simp only [DataW.weightsAll, List.mem_append]
    rcases List.mem_cons.1 hd with rfl | h
    · exact .inl hn
    · exact .inr (weightsAll_mem' h n hn)

theorem open_textsIn {H : Type} {enc : TypeId × Value → H} {w : World} {fuel : Nat} {v : Value} {y : DataW H × List MemPlace} (hf : DataW.trod enc Tryd.prog w 0 (fun _ => true) true fuel 25 [v] = some y) :
    ∃ T, TextsIn w v T ∧ ∀ t ∈ T, t.length ∈ y.1.weights Tryd.prog 25 := by
  rcases open_strings Tryd.underlying25 Tryd.underlying9 (by kernel_rfl) hf with ⟨h0, _⟩ | ⟨a', len', cap', ss, hcs, _, hl, hmx, hz, hd, hcell, hw⟩
  · simp at h0
    subst h0
    exact ⟨[], ⟨none, 0, 0, rfl, rfl, Nat.le_refl _, by omega, .inl rfl⟩, fun t ht => by cases ht⟩
  · simp only [List.cons.injEq, and_true] at hcs
    subst hcs
    have hz' : ss.length = cap' := by rw [hz]; simp
    refine ⟨(ss.take len').map bytes, ⟨_, len', cap', rfl, by rw [List.length_map, List.length_take]; omega, hl, by unfold maxLen at hmx; omega, ?_⟩, ?_⟩
    · by_cases h0 : len' = 0
      · subst h0; exact .inl rfl
      right
      obtain ⟨b, off, spot⟩ := a'
      have hs0 := hcell 0 (by omega)
      have hspot : spot = none := by simpa [Addr.add] using World.cell?_spot hs0
      subst hspot
      refine ⟨b, off, rfl, World.block_lt_of_cell? w ((⟨b, off, none⟩ : Addr).add 0) hs0, fun i t ht => ?_⟩
      rw [List.getElem?_map] at ht
      by_cases hi : i < len'
      · rw [List.getElem?_take_of_lt hi, List.getElem?_eq_getElem (show i < ss.length by omega)] at ht
        obtain rfl := Option.some.inj ht
        have := hcell i (by omega)
        rw [Go.WideShapes.add_plain] at this
        rw [this]
        have e : ss.getD i ByteArray.empty = ss[i]'(by omega) := by simp [List.getD, List.getElem?_eq_getElem (show i < ss.length by omega)]
        rw [e]
      · rw [List.getElem?_eq_none (by rw [List.length_take]; omega)] at ht; cases ht
    · intro t ht
      obtain ⟨s, hs, rfl⟩ := List.mem_map.1 ht
      rw [hd, blen]
      simp only [DataW.weights, Tryd.underlying25, List.mem_cons, List.mem_append]
      refine .inr (.inl (weightsAll_mem' (d := .lit (.string s.data.toList)) (List.mem_map.2 ⟨s, hs, rfl⟩) _ ?_))
      rw [DataW.weights]
      simp

theorem open_numsIn {H : Type} {enc : TypeId × Value → H} {w : World} {fuel : Nat} {v : Value} {y : DataW H × List MemPlace} (hf : DataW.trod enc Tryd.prog w 0 (fun _ => true) true fuel 26 [v] = some y) :
    ∃ N, NumsIn w v N ∧ ∀ n ∈ N, -9223372036854775808 ≤ n ∧ n ≤ 9223372036854775807 := by
  rcases open_ints Tryd.underlying26 Tryd.underlying3 (by kernel_rfl) hf with ⟨h0, _⟩ | ⟨a', len', cap', zs, hcs, _, hl, hmx, hz, hd, hcell, hw⟩
  · simp at h0
    subst h0
    exact ⟨[], ⟨none, 0, 0, rfl, rfl, Nat.le_refl _, by omega, .inl rfl⟩, fun t ht => by cases ht⟩
  · simp only [List.cons.injEq, and_true] at hcs
    subst hcs
    have hz' : zs.length = cap' := by rw [hz]; simp
    refine ⟨zs.take len', ⟨_, len', cap', rfl, by rw [List.length_take]; omega, hl, by unfold maxLen at hmx; omega, ?_⟩, fun n hn => int_range (hw n (List.mem_of_mem_take hn))⟩
    by_cases h0 : len' = 0
    · subst h0; exact .inl rfl
    right
    obtain ⟨b, off, spot⟩ := a'
    have hs0 := hcell 0 (by omega)
    have hspot : spot = none := by simpa [Addr.add] using World.cell?_spot hs0
    subst hspot
    refine ⟨b, off, rfl, World.block_lt_of_cell? w ((⟨b, off, none⟩ : Addr).add 0) hs0, fun i t ht => ?_⟩
    by_cases hi : i < len'
    · rw [List.getElem?_take_of_lt hi, List.getElem?_eq_getElem (show i < zs.length by omega)] at ht
      obtain rfl := Option.some.inj ht
      have := hcell i (by omega)
      rw [Go.WideShapes.add_plain] at this
      rw [this]
      have e : zs.getD i 0 = zs[i]'(by omega) := by simp [List.getD, List.getElem?_eq_getElem (show i < zs.length by omega)]
      rw [e]
    · rw [List.getElem?_eq_none (by rw [List.length_take]; omega)] at ht; cases ht

theorem byte_in {z : Int} (h : (Lit.int .u8 z).wf = true) : 0 ≤ z ∧ z < 256 := by
  have hmin : IntKind.u8.min = 0 := rfl
  have hmax : IntKind.u8.max = 255 := rfl
  simp only [Lit.wf, Bool.and_eq_true, decide_eq_true_eq] at h
  omega
theorem byte_form {z : Int} (h : (Lit.int .u8 z).wf = true) : ∃ c : UInt8, z = (c.toNat : Nat) := by
  have hz := byte_in h
  refine ⟨UInt8.ofNat z.toNat, ?_⟩
  rw [UInt8.toNat_ofNat', Nat.mod_eq_of_lt (by omega)]
  omega
theorem open_msg {H : Type} {enc : TypeId × Value → H} {w : World} {r : Reach} {b0 : Nat} {v : Value} {d : DataW H} {p : List MemPlace} (hv : Value.okWide Tryd.prog w r b0 28 v) (h : DataW.Trod enc Tryd.prog w 0 (fun _ => true) true 28 v d p) :
    ∃ (c : UInt8) (tv nv : Value) (T : List Bs) (N : List Int), v = .agg #[.int .u8 (c.toNat : Nat), tv, nv] ∧ TextsIn w tv T ∧ NumsIn w nv N ∧ (∀ t ∈ T, t.length ∈ d.weights Tryd.prog 28) ∧ (∀ n ∈ N, -9223372036854775808 ≤ n ∧ n ≤ 9223372036854775807) := by
  obtain ⟨v0, v1, v2, y0, y1, y2, n, rfl, hd, _, h0, h1, h2⟩ := open_agg3 Tryd.underlying28 (by kernel_rfl) (by kernel_rfl) hv h
  obtain ⟨z, e0, _, wz⟩ := DataW.trod_int Tryd.underlying5 h0
  simp at e0
  subst e0
  obtain ⟨c, rfl⟩ := byte_form wz
  obtain ⟨T, hT, hw⟩ := open_textsIn h1
  obtain ⟨N, hN, hr⟩ := open_numsIn h2
  refine ⟨c, v1, v2, T, N, rfl, hT, hN, fun t ht => ?_, hr⟩
  have := hw t ht
  rw [hd]
  simp only [DataW.weights, Tryd.underlying28, DataW.weightsEach, List.map_cons, List.map_nil, List.mem_append]
  exact .inr (.inl this)
end Go.Proofs.YtfdffiphlpeegaaDoor
