/- Can a message be gone through? -/
import Derived.Test.YtfdffiphlpeegaaDoorMOpen
namespace Go.Proofs.YtfdffiphlpeegaaDoor
open Go.RowKit Go.Lib Go.WideShapes

def wsum (T : List Bs) : Nat := (T.map fun t => t.length + 1).sum
theorem wsum_next {T : List Bs} {j : Nat} (h : j < T.length) : wsum (T.take (j + 1)) = wsum (T.take j) + (T[j].length + 1) := by
  unfold wsum
  rw [List.take_succ_eq_append_getElem h, List.map_append, List.sum_append]
  rfl
theorem wsum_split (T : List Bs) (j : Nat) : wsum T = wsum (T.take j) + wsum (T.drop j) := by
  unfold wsum
  rw [← List.sum_append, ← List.map_append, List.take_append_drop]
def fewB (T : List Bs) (N : List Int) : Bool := decide (wsum T + N.length < 3000)
theorem sum19_le : ∀ T : List Bs, (T.map fun t => t.length + 19).sum ≤ 19 * wsum T
  | [] => Nat.le_refl _
  | t :: T => by
    have := sum19_le T
    unfold wsum at this ⊢
    simp only [List.map_cons, List.sum_cons]
    omega
theorem room_few {T : List Bs} {N : List Int} (h : wsum T + N.length < 3000) : room ⟨T, N, []⟩ ≤ 800000 := by
  have := sum19_le T
  unfold room
  show 0 + ((T.map fun t => t.length + 19).sum + 4 * N.length) ≤ _
  omega

set_option maxRecDepth 100000 in
set_option maxHeartbeats 8000000 in
theorem few_any (w : World) (c : UInt8) (T : List Bs) (N : List Int) (tv nv : Value) (hT : TextsIn w tv T) (hN : NumsIn w nv N) (hz : ∀ t ∈ T, t.length ≤ 140737488351232) :
    Calls Tryd.prog 14 #[.agg #[.int .u8 (c.toNat : Nat), tv, nv]] w fun e w' => e = .returned (.bool (fewB T N)) ∧ Below w.heap.size w w' := by
  obtain ⟨at', nt, ct, rfl, hlt, hct, hct2, hTc⟩ := hT
  obtain ⟨an, nn, cn, rfl, hln, hcn, hcn2, _⟩ := hN
  obtain ⟨W0, hW0⟩ : ∃ x, x = w.alloc (.cells #[.int .u8 (c.toNat : Nat), .slice at' nt ct, .slice an nn cn] 28) := ⟨_, rfl⟩
  have HB := Lib.hid (show Below w.heap.size w W0 by rw [hW0]; exact (Below.refl _ _).alloc (Nat.le_refl _) _)
  have k1 : W0.cell? ⟨w.heap.size, 1, none⟩ = some (.slice at' nt ct) := by rw [hW0]; simp [go_sem]
  have k2 : W0.cell? ⟨w.heap.size, 2, none⟩ = some (.slice an nn cn) := by rw [hW0]; simp [go_sem]
  have HZ := Lib.hid hz
  have HC := Lib.hid hTc
  have HE := Lib.hid hW0
  have HLT := Lib.hid hlt
  have HLN := Lib.hid hln
  have hnn : (nn : Int) ≤ 9223372036854775807 := by omega
  clear hW0 hz hTc hlt hln
  go_enter Tryd.func14, Tryd.ntmps14
  go_wp2_with fail
  rw [← HE.out]
  go_loopw [3, 4] (fun n i wx => ∃ j k : Nat, j ≤ nt ∧ i = .int .i64 j ∧ n = .int .i64 k ∧ k = nn + wsum (T.take j) ∧ (k : Int) ≤ 9223372036854775807 ∧ wx = W0) (fun _ i _ => nt - (RowKit.intOf i).toNat)
  case atStart => exact ⟨0, nn, Nat.zero_le _, rfl, rfl, rfl, hnn, rfl⟩
  case round =>
    obtain ⟨j, k, hj, rfl, rfl, hk, hk2, rfl⟩ := hrel
    have HK := Lib.hid hk
    clear hk
    by_cases hlt : j < nt
    · have hlt' : (j : Int) < nt := by omega
      by_cases hk3 : k < 3000
      · have hk3' : (k : Int) < 3000 := by omega
        have hjT : j < T.length := by rw [HLT.out]; exact hlt
        obtain ⟨g, off, rfl, hg, hcell⟩ : ∃ g off, at' = some ⟨g, off, none⟩ ∧ g < w.heap.size ∧ ∀ (i : Nat) (t : Bs), T[i]? = some t → w.cell? ⟨g, off + i, none⟩ = some (.string ⟨t.toArray⟩) := by
          rcases HC.out with h | h
          · rw [h] at hjT; cases hjT
          · exact h
        have d0 := (HB.out.cell (p := ⟨g, off + j, none⟩) hg).trans (hcell j _ (List.getElem?_eq_getElem hjT))
        have hsz := HZ.out _ (List.getElem_mem hjT)
        have HX := Lib.hid (wsum_next hjT)
        generalize T[j] = t at d0 hsz HX
        have HS := Lib.hid (bsize t)
        generalize (⟨t.toArray⟩ : ByteArray) = s at d0 HS
        have hsz2 : s.size ≤ 140737488351232 := by rw [HS.out]; exact hsz
        clear hcell hjT hsz
        go_wp2_with fail
        go_roundw
        case measure => first | omega | (simp [RowKit.intOf]; omega)
        case rel => exact ⟨j + 1, k + 1 + s.size, by omega, by go_num, by go_num, by rw [HX.out, HK.out, HS.out]; omega, by omega, trivial⟩
      · have hk3' : ¬ (k : Int) < 3000 := by omega
        go_wp2_with fail
        go_ret
        have h2 := HK.out
        have h3 := wsum_split T j
        have hr : fewB T N = false := decide_eq_false (by rw [HLN.out]; omega)
        exact ⟨by rw [hr]; rfl, HB.out⟩
    · have hlt' : ¬ (j : Int) < nt := by omega
      have hjn : j = nt := by omega
      go_wp2_with fail
      go_ret
      have h2 := HK.out
      rw [hjn, ← HLT.out, List.take_length] at h2
      have hr : fewB T N = decide ((k : Int) < 3000) := by
        unfold fewB
        rw [HLN.out]
        by_cases h3 : k < 3000
        · rw [decide_eq_true (by omega), decide_eq_true (by omega)]
        · rw [decide_eq_false (by omega), decide_eq_false (by omega)]
      exact ⟨by rw [hr]; rfl, HB.out⟩
end Go.Proofs.YtfdffiphlpeegaaDoor
