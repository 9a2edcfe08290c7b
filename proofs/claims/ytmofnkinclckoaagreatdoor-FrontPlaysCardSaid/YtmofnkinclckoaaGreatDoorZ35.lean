/- Contracts and mathematics: MShown, MAs, MOpen, MFew, MSame, DEncX. -/
import Derived.Test.YtmofnkinclckoaaGreatDoorZ7
import Derived.Deep.SlicePairs
import Derived.SliceStrings
import Derived.ChangeSlices
import Derived.Lib.SmallJoins
import Derived.Test.YtmofnkinclckoaaGreatDoorZ11
import Derived.Deep.Cut
namespace Go.Proofs.YtmofnkinclckoaaGreatDoor
open Go.RowKit Go.Lib Go.WideShapes

end Go.Proofs.YtmofnkinclckoaaGreatDoor

namespace Go.Proofs.YtmofnkinclckoaaGreatDoor
open Go.RowKit Go.Lib Go.WideShapes

end Go.Proofs.YtmofnkinclckoaaGreatDoor

namespace Go.Proofs.YtmofnkinclckoaaGreatDoor
open Go.RowKit Go.Lib Go.WideShapes Go.ChangeShapes Go.ChangeAt Go.Joins

theorem weightsAll_mem' {H : Type} {P : Program} {e : TypeId} : ∀ {l : List (DataW H)} {d : DataW H}, d ∈ l → ∀ n ∈ d.weights P e, n ∈ DataW.weightsAll P e l
  | d' :: r, d, hd, n, hn => by
    simp only [DataW.weightsAll, List.mem_append]
    rcases List.mem_cons.1 hd with rfl | h
    · exact .inl hn
    · exact .inr (weightsAll_mem' h n hn)

theorem open_textsIn {H : Type} {enc : TypeId × Value → H} {w : World} {fuel : Nat} {v : Value} {y : DataW H × List MemPlace} (hf : DataW.trod enc Tryz.prog w 0 (fun _ => true) true fuel 22 [v] = some y) :
    ∃ T, TextsIn w v T ∧ ∀ t ∈ T, t.length ∈ y.1.weights Tryz.prog 22 := by
  rcases open_strings Tryz.underlying22 Tryz.underlying9 (by kernel_rfl) hf with ⟨h0, _⟩ | ⟨a', len', cap', ss, hcs, _, hl, hmx, hz, hd, hcell, hw⟩
  · simp at h0
    subst h0
    exact ⟨[], ⟨none, 0, 0, rfl, rfl, Nat.le_refl _, by omega, .inl rfl⟩, fun t ht => by cases ht⟩
  · simp only [List.cons.injEq, and_true] at hcs
    subst hcs
    have hz' : ss.length = cap' := by rw [hz]; simp
    refine ⟨(ss.take len').map bytes, ⟨_, len', cap', rfl, by rw [List.length_map, List.length_take]; omega, hl, by unfold maxLen at hmx; omega, ?_⟩, ?_⟩
    · by_cases h0 : len' = 0
      · subst h0; exact .inl rfl
      right
      obtain ⟨b, off, spot⟩ := a'
      have hs0 := hcell 0 (by omega)
      have hspot : spot = none := by simpa [Addr.add] using World.cell?_spot hs0
      subst hspot
      refine ⟨b, off, rfl, World.block_lt_of_cell? w ((⟨b, off, none⟩ : Addr).add 0) hs0, fun i t ht => ?_⟩
      rw [List.getElem?_map] at ht
      by_cases hi : i < len'
      · rw [List.getElem?_take_of_lt hi, List.getElem?_eq_getElem (show i < ss.length by omega)] at ht
        obtain rfl := Option.some.inj ht
        have := hcell i (by omega)
        rw [Go.WideShapes.add_plain] at this
        rw [this]
        have e : ss.getD i ByteArray.empty = ss[i]'(by omega) := by simp [List.getD, List.getElem?_eq_getElem (show i < ss.length by omega)]
        rw [e]
      · rw [List.getElem?_eq_none (by rw [List.length_take]; omega)] at ht; cases ht
    · intro t ht
      obtain ⟨s, hs, rfl⟩ := List.mem_map.1 ht
      rw [hd, blen]
      simp only [DataW.weights, Tryz.underlying22, List.mem_cons, List.mem_append]
      refine .inr (.inl (weightsAll_mem' (d := .lit (.string s.data.toList)) (List.mem_map.2 ⟨s, hs, rfl⟩) _ ?_))
      rw [DataW.weights]
      simp

theorem open_numsIn {H : Type} {enc : TypeId × Value → H} {w : World} {fuel : Nat} {v : Value} {y : DataW H × List MemPlace} (hf : DataW.trod enc Tryz.prog w 0 (fun _ => true) true fuel 34 [v] = some y) :
    ∃ N, NumsIn w v N ∧ ∀ n ∈ N, -9223372036854775808 ≤ n ∧ n ≤ 9223372036854775807 := by
  rcases open_ints Tryz.underlying34 Tryz.underlying3 (by kernel_rfl) hf with ⟨h0, _⟩ | ⟨a', len', cap', zs, hcs, _, hl, hmx, hz, hd, hcell, hw⟩
  · simp at h0
    subst h0
    exact ⟨[], ⟨none, 0, 0, rfl, rfl, Nat.le_refl _, by omega, .inl rfl⟩, fun t ht => by cases ht⟩
  · simp only [List.cons.injEq, and_true] at hcs
    subst hcs
    have hz' : zs.length = cap' := by rw [hz]; simp
    refine ⟨zs.take len', ⟨_, len', cap', rfl, by rw [List.length_take]; omega, hl, by unfold maxLen at hmx; omega, ?_⟩, fun n hn => int_range (hw n (List.mem_of_mem_take hn))⟩
    by_cases h0 : len' = 0
    · subst h0; exact .inl rfl
    right
    obtain ⟨b, off, spot⟩ := a'
    have hs0 := hcell 0 (by omega)
    have hspot : spot = none := by simpa [Addr.add] using World.cell?_spot hs0
    subst hspot
    refine ⟨b, off, rfl, World.block_lt_of_cell? w ((⟨b, off, none⟩ : Addr).add 0) hs0, fun i t ht => ?_⟩
    by_cases hi : i < len'
    · rw [List.getElem?_take_of_lt hi, List.getElem?_eq_getElem (show i < zs.length by omega)] at ht
      obtain rfl := Option.some.inj ht
      have := hcell i (by omega)
      rw [Go.WideShapes.add_plain] at this
      rw [this]
      have e : zs.getD i 0 = zs[i]'(by omega) := by simp [List.getD, List.getElem?_eq_getElem (show i < zs.length by omega)]
      rw [e]
    · rw [List.getElem?_eq_none (by rw [List.length_take]; omega)] at ht; cases ht

theorem byte_in {z : Int} (h : (Lit.int .u8 z).wf = true) : 0 ≤ z ∧ z < 256 := by
  have hmin : IntKind.u8.min = 0 := rfl
  have hmax : IntKind.u8.max = 255 := rfl
  simp only [Lit.wf, Bool.and_eq_true, decide_eq_true_eq] at h
  omega
theorem byte_form {z : Int} (h : (Lit.int .u8 z).wf = true) : ∃ c : UInt8, z = (c.toNat : Nat) := by
  have hz := byte_in h
  refine ⟨UInt8.ofNat z.toNat, ?_⟩
  rw [UInt8.toNat_ofNat', Nat.mod_eq_of_lt (by omega)]
  omega
set_option maxRecDepth 100000 in
theorem open_msg {H : Type} {enc : TypeId × Value → H} {w : World} {r : Reach} {b0 : Nat} {v : Value} {d : DataW H} {p : List MemPlace} (hv : Value.okWide Tryz.prog w r b0 54 v) (h : DataW.Trod enc Tryz.prog w 0 (fun _ => true) true 54 v d p) :
    ∃ (c : UInt8) (tv nv : Value) (T : List Bs) (N : List Int), v = .agg #[.int .u8 (c.toNat : Nat), tv, nv] ∧ TextsIn w tv T ∧ NumsIn w nv N ∧ (∀ t ∈ T, t.length ∈ d.weights Tryz.prog 54) ∧ (∀ n ∈ N, -9223372036854775808 ≤ n ∧ n ≤ 9223372036854775807) := by
  obtain ⟨v0, v1, v2, y0, y1, y2, n, rfl, hd, _, h0, h1, h2⟩ := open_agg3 Tryz.underlying54 (by kernel_rfl) (by kernel_rfl) hv h
  obtain ⟨z, e0, _, wz⟩ := DataW.trod_int Tryz.underlying5 h0
  simp at e0
  subst e0
  obtain ⟨c, rfl⟩ := byte_form wz
  obtain ⟨T, hT, hw⟩ := open_textsIn h1
  obtain ⟨N, hN, hr⟩ := open_numsIn h2
  refine ⟨c, v1, v2, T, N, rfl, hT, hN, fun t ht => ?_, hr⟩
  have := hw t ht
  rw [hd]
  simp only [DataW.weights, Tryz.underlying54, DataW.weightsEach, List.map_cons, List.map_nil, List.mem_append]
  exact .inr (.inl this)
end Go.Proofs.YtmofnkinclckoaaGreatDoor

namespace Go.Proofs.YtmofnkinclckoaaGreatDoor
open Go.RowKit Go.Lib Go.WideShapes

def wsum (T : List Bs) : Nat := (T.map fun t => t.length + 1).sum
theorem wsum_next {T : List Bs} {j : Nat} (h : j < T.length) : wsum (T.take (j + 1)) = wsum (T.take j) + (T[j].length + 1) := by
  unfold wsum
  rw [List.take_succ_eq_append_getElem h, List.map_append, List.sum_append]
  rfl
theorem wsum_split (T : List Bs) (j : Nat) : wsum T = wsum (T.take j) + wsum (T.drop j) := by
  unfold wsum
  rw [← List.sum_append, ← List.map_append, List.take_append_drop]
def fewB (T : List Bs) (N : List Int) : Bool := decide (wsum T + N.length < 3000)
theorem sum19_le : ∀ T : List Bs, (T.map fun t => t.length + 19).sum ≤ 19 * wsum T
  | [] => Nat.le_refl _
  | t :: T => by
    have := sum19_le T
    unfold wsum at this ⊢
    simp only [List.map_cons, List.sum_cons]
    omega
theorem room_few {T : List Bs} {N : List Int} (h : wsum T + N.length < 3000) : room ⟨T, N, []⟩ ≤ 800000 := by
  have := sum19_le T
  unfold room
  show 0 + ((T.map fun t => t.length + 19).sum + 4 * N.length) ≤ _
  omega

end Go.Proofs.YtmofnkinclckoaaGreatDoor

namespace Go.Proofs.YtmofnkinclckoaaGreatDoor
open Go.RowKit Go.Lib Go.WideShapes

def sameB (c1 : UInt8) (T1 : List Bs) (N1 : List Int) (c2 : UInt8) (T2 : List Bs) (N2 : List Int) : Bool := decide (c1 = c2 ∧ T1 = T2 ∧ N1 = N2)

/-- Rows that are the same as far as they go, and are as long, are the same. -/
theorem rows_ext {α : Type} {A B : List α} {n : Nat} (hA : A.length = n) (hB : B.length = n) (h : ∀ i, i < n → A[i]? = B[i]?) : A = B := by
  apply List.ext_getElem?
  intro i
  by_cases hi : i < n
  · exact h i hi
  · rw [List.getElem?_eq_none (by omega), List.getElem?_eq_none (by omega)]

end Go.Proofs.YtmofnkinclckoaaGreatDoor

namespace Go.Proofs.YtmofnkinclckoaaGreatDoor
open Go.RowKit Go.Lib Go.WideShapes

def encX (c : UInt8) (r : Option Bs) : Int := if encE r = 0 then (c.toNat : Nat) else 0
def encB (r : Option Bs) : ByteArray := if encE r = 0 then ⟨(r.getD []).toArray⟩ else { data := #[] }
theorem encV_form (c : UInt8) (r : Option Bs) : encV c r = .tuple #[.agg #[.int .u8 (encX c r), .string (encB r)], .int .i64 (encE r)] := by
  unfold encV encX encB
  by_cases h : encE r = 0
  · rw [if_pos h, if_pos h, if_pos h]
  · rw [if_neg h, if_neg h, if_neg h]
theorem encE_zero {r : Option Bs} (h : encE r = 0) : ∃ B, r = some B ∧ B.length ≤ 10000 := by
  cases r with
  | none => cases h
  | some B =>
    refine ⟨B, rfl, ?_⟩
    by_cases hb : 10000 < B.length
    · have h3 : encE (some B) = 3 := if_pos hb
      rw [h3] at h; cases h
    · omega
end Go.Proofs.YtmofnkinclckoaaGreatDoor
