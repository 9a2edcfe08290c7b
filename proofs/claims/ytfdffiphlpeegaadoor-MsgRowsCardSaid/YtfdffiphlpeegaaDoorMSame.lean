/- Are two messages the same? -/
import Derived.Test.YtfdffiphlpeegaaDoorMFew
import Derived.Test.YtfdffiphlpeegaaDoorPlain
namespace Go.Proofs.YtfdffiphlpeegaaDoor
open Go.RowKit Go.Lib Go.WideShapes

def sameB (c1 : UInt8) (T1 : List Bs) (N1 : List Int) (c2 : UInt8) (T2 : List Bs) (N2 : List Int) : Bool := decide (c1 = c2 ∧ T1 = T2 ∧ N1 = N2)

/-- Rows that are the same as far as they go, and are as long, are the same. -/
theorem rows_ext {α : Type} {A B : List α} {n : Nat} (hA : A.length = n) (hB : B.length = n) (h : ∀ i, i < n → A[i]? = B[i]?) : A = B := by
  apply List.ext_getElem?
  intro i
  by_cases hi : i < n
  · exact h i hi
  · rw [List.getElem?_eq_none (by omega), List.getElem?_eq_none (by omega)]

set_option maxRecDepth 100000 in
set_option maxHeartbeats 16000000 in
theorem same_any (w : World) (c1 c2 : UInt8) (T1 T2 : List Bs) (N1 N2 : List Int) (tv1 nv1 tv2 nv2 : Value) (hT1 : TextsIn w tv1 T1) (hN1 : NumsIn w nv1 N1) (hT2 : TextsIn w tv2 T2) (hN2 : NumsIn w nv2 N2) :
    Calls Tryd.prog 12 #[.agg #[.int .u8 (c1.toNat : Nat), tv1, nv1], .agg #[.int .u8 (c2.toNat : Nat), tv2, nv2]] w fun e w' => e = .returned (.bool (sameB c1 T1 N1 c2 T2 N2)) ∧ Below w.heap.size w w' := by
  obtain ⟨a1, n1, s1, rfl, ht1, hb1, hm1, hc1⟩ := hT1
  obtain ⟨a2, n2, s2, rfl, ht2, hb2, hm2, hc2⟩ := hT2
  obtain ⟨b1, m1, r1, rfl, hn1, hd1, hx1, he1⟩ := hN1
  obtain ⟨b2, m2, r2, rfl, hn2, hd2, hx2, he2⟩ := hN2
  obtain ⟨W0, hW0⟩ : ∃ x, x = ((w.alloc (.cells #[.int .u8 (c1.toNat : Nat), .slice a1 n1 s1, .slice b1 m1 r1] 32)).alloc (.cells #[.int .u8 (c2.toNat : Nat), .slice a2 n2 s2, .slice b2 m2 r2] 32)) := ⟨_, rfl⟩
  have HB := Lib.hid (show Below w.heap.size w W0 by rw [hW0]; exact ((Below.refl _ _).alloc (Nat.le_refl _) _).alloc (by simp) _)
  have k0 : W0.cell? ⟨w.heap.size, 0, none⟩ = some (.int .u8 (c1.toNat : Nat)) := by rw [hW0]; simp [go_sem]
  have k1 : W0.cell? ⟨w.heap.size, 1, none⟩ = some (.slice a1 n1 s1) := by rw [hW0]; simp [go_sem]
  have k2 : W0.cell? ⟨w.heap.size, 2, none⟩ = some (.slice b1 m1 r1) := by rw [hW0]; simp [go_sem]
  have l0 : W0.cell? ⟨w.heap.size + 1, 0, none⟩ = some (.int .u8 (c2.toNat : Nat)) := by rw [hW0]; simp [go_sem]
  have l1 : W0.cell? ⟨w.heap.size + 1, 1, none⟩ = some (.slice a2 n2 s2) := by rw [hW0]; simp [go_sem]
  have l2 : W0.cell? ⟨w.heap.size + 1, 2, none⟩ = some (.slice b2 m2 r2) := by rw [hW0]; simp [go_sem]
  have KK := Lib.hid (And.intro k1 (And.intro k2 (And.intro l1 l2)))
  have HE := Lib.hid hW0
  have HT := Lib.hid (And.intro ht1 ht2)
  have HN := Lib.hid (And.intro hn1 hn2)
  have C1 := Lib.hid hc1; have C2 := Lib.hid hc2; have E1 := Lib.hid he1; have E2 := Lib.hid he2
  have q1 : (n1 : Int) ≤ 9223372036854775807 := by omega
  have q2 : (m1 : Int) ≤ 9223372036854775807 := by omega
  clear hW0 ht1 ht2 hn1 hn2 hc1 hc2 he1 he2 hb1 hb2 hm1 hm2 hd1 hd2 hx1 hx2
  by_cases hc : ¬ c1 = c2
  · have hcb : ((c1.toNat : Int) != (c2.toNat : Int)) = true := by
      rw [bne_iff_ne]; intro e; exact hc (UInt8.toNat_inj.1 (Int.ofNat.inj e))
    have HR := Lib.hid (show sameB c1 T1 N1 c2 T2 N2 = false from decide_eq_false fun h => hc h.1)
    clear hc
    go_enter Tryd.func12, Tryd.ntmps12
    go_wp2_with fail
    rw [← HE.out]
    go_ret
    exact ⟨by rw [HR.out]; rfl, HB.out⟩
  replace hc := Decidable.not_not.1 hc
  subst hc
  by_cases hn : ¬ n1 = n2
  · have hnb : ((n1 : Int) != (n2 : Int)) = true := by rw [bne_iff_ne]; omega
    have HR := Lib.hid (show sameB c1 T1 N1 c1 T2 N2 = false from decide_eq_false fun h => hn (by rw [← HT.out.1, ← HT.out.2, h.2.1]))
    clear hn
    go_enter Tryd.func12, Tryd.ntmps12
    go_wp2_with fail
    rw [← HE.out]
    go_ret
    exact ⟨by rw [HR.out]; rfl, HB.out⟩
  replace hn := Decidable.not_not.1 hn
  subst hn
  by_cases hm : ¬ m1 = m2
  · have hmb : ((m1 : Int) != (m2 : Int)) = true := by rw [bne_iff_ne]; omega
    have HR := Lib.hid (show sameB c1 T1 N1 c1 T2 N2 = false from decide_eq_false fun h => hm (by rw [← HN.out.1, ← HN.out.2, h.2.2]))
    clear hm
    go_enter Tryd.func12, Tryd.ntmps12
    go_wp2_with fail
    rw [← HE.out]
    go_ret
    exact ⟨by rw [HR.out]; rfl, HB.out⟩
  replace hm := Decidable.not_not.1 hm
  subst hm
  go_enter Tryd.func12, Tryd.ntmps12
  go_wp2_with fail
  rw [← HE.out]
  clear k0 k1 k2 l0 l1 l2
  go_loopw [5, 5] (fun i _ wx => ∃ j n : Nat, j ≤ n1 ∧ i = .int .i64 j ∧ (∀ i, i < j → T1[i]? = T2[i]?) ∧ wx = W0.drewN n) (fun i _ _ => n1 - (RowKit.intOf i).toNat)
  case atStart => exact ⟨0, 0, Nat.zero_le _, rfl, fun i hi => by omega, rfl⟩
  case round =>
    obtain ⟨j, n, hj, rfl, hp, hW⟩ := hrel
    have HW := Lib.hid hW
    have HP := Lib.hid hp
    have k1 : wr.cell? ⟨w.heap.size, 1, none⟩ = some (.slice a1 n1 s1) := by rw [hW]; exact KK.out.1
    have l1 : wr.cell? ⟨w.heap.size + 1, 1, none⟩ = some (.slice a2 n1 s2) := by rw [hW]; exact KK.out.2.2.1
    have k2 : wr.cell? ⟨w.heap.size, 2, none⟩ = some (.slice b1 m1 r1) := by rw [hW]; exact KK.out.2.1
    have l2 : wr.cell? ⟨w.heap.size + 1, 2, none⟩ = some (.slice b2 m1 r2) := by rw [hW]; exact KK.out.2.2.2
    have HBW := Lib.hid (show Below w.heap.size w wr by rw [hW]; exact below_drewN HB.out _)
    clear hp hW
    by_cases hlt : j < n1
    · have hlt' : (j : Int) < n1 := by omega
      have hj1 : j < T1.length := by rw [HT.out.1]; exact hlt
      have hj2 : j < T2.length := by rw [HT.out.2]; exact hlt
      obtain ⟨g, off, rfl, hg, hcell⟩ := C1.out.resolve_left (fun h => by rw [h] at hj1; cases hj1)
      obtain ⟨g', off', rfl, hg', hcell'⟩ := C2.out.resolve_left (fun h => by rw [h] at hj2; cases hj2)
      have d0 := (HBW.out.cell (p := ⟨g, off + j, none⟩) hg).trans (hcell j _ (List.getElem?_eq_getElem hj1))
      have d1 := (HBW.out.cell (p := ⟨g', off' + j, none⟩) hg').trans (hcell' j _ (List.getElem?_eq_getElem hj2))
      have G1 := Lib.hid (List.getElem?_eq_getElem hj1)
      have G2 := Lib.hid (List.getElem?_eq_getElem hj2)
      generalize T1[j] = x at d0 G1
      generalize T2[j] = y at d1 G2
      clear hcell hcell' hj1 hj2
      by_cases hxy : x = y
      · subst hxy
        generalize (⟨x.toArray⟩ : ByteArray) = xb at d0 d1
        have hne : (xb.toList == xb.toList) = true := by simp
        go_wp2_with fail
        go_quiet (fail)
        go_wp2_with fail
        go_roundw
        case measure => first | omega | (simp [RowKit.intOf]; omega)
        case rel =>
          refine ⟨j + 1, n + nq, by omega, by go_num, fun i hi => ?_, by rw [HW.out, World.drewN_drewN]⟩
          by_cases e : i = j
          · subst e; rw [G1.out, G2.out]
          · exact HP.out i (by omega)
      · have HR := Lib.hid (show sameB c1 T1 N1 c1 T2 N2 = false from decide_eq_false fun h => hxy (by
          have e := G1.out
          rw [h.2.1, G2.out] at e
          exact (Option.some.inj e).symm))
        have hne : ((⟨x.toArray⟩ : ByteArray).toList == (⟨y.toArray⟩ : ByteArray).toList) = false := by
          apply beq_eq_false_iff_ne.2; intro e; exact hxy (by have := toList_inj e; simpa using this)
        generalize (⟨x.toArray⟩ : ByteArray) = xb at d0 hne
        generalize (⟨y.toArray⟩ : ByteArray) = yb at d1 hne
        clear hxy
        go_wp2_with fail
        go_quiet (fail)
        go_wp2_with fail
        go_ret
        exact ⟨by rw [HR.out]; rfl, below_drewN HBW.out _⟩
    · obtain rfl : j = n1 := by omega
      have HTT := Lib.hid (rows_ext HT.out.1 HT.out.2 HP.out)
      clear hlt
      go_wp2_with fail
      clear k1 l1 k2 l2
      go_loopw [6, 6] (fun i _ wx => ∃ k n : Nat, k ≤ m1 ∧ i = .int .i64 k ∧ (∀ i, i < k → N1[i]? = N2[i]?) ∧ wx = W0.drewN n) (fun i _ _ => m1 - (RowKit.intOf i).toNat)
      case atStart => exact ⟨0, n, Nat.zero_le _, rfl, fun i hi => by omega, HW.out⟩
      case round =>
        obtain ⟨k, n', hk, rfl, hp, hW⟩ := hrel
        have HW := Lib.hid hW
        have HP := Lib.hid hp
        have k2 : wr.cell? ⟨w.heap.size, 2, none⟩ = some (.slice b1 m1 r1) := by rw [hW]; exact KK.out.2.1
        have l2 : wr.cell? ⟨w.heap.size + 1, 2, none⟩ = some (.slice b2 m1 r2) := by rw [hW]; exact KK.out.2.2.2
        have HBW := Lib.hid (show Below w.heap.size w wr by rw [hW]; exact below_drewN HB.out _)
        clear hp hW
        by_cases hlt : k < m1
        · have hlt' : (k : Int) < m1 := by omega
          have hj1 : k < N1.length := by rw [HN.out.1]; exact hlt
          have hj2 : k < N2.length := by rw [HN.out.2]; exact hlt
          obtain ⟨g, off, rfl, hg, hcell⟩ := E1.out.resolve_left (fun h => by rw [h] at hj1; cases hj1)
          obtain ⟨g', off', rfl, hg', hcell'⟩ := E2.out.resolve_left (fun h => by rw [h] at hj2; cases hj2)
          have d0 := (HBW.out.cell (p := ⟨g, off + k, none⟩) hg).trans (hcell k _ (List.getElem?_eq_getElem hj1))
          have d1 := (HBW.out.cell (p := ⟨g', off' + k, none⟩) hg').trans (hcell' k _ (List.getElem?_eq_getElem hj2))
          have G1 := Lib.hid (List.getElem?_eq_getElem hj1)
          have G2 := Lib.hid (List.getElem?_eq_getElem hj2)
          generalize N1[k] = x at d0 G1
          generalize N2[k] = y at d1 G2
          clear hcell hcell' hj1 hj2
          by_cases hxy : x = y
          · subst hxy
            have hne : (x != x) = false := by simp
            go_wp2_with fail
            go_quiet (fail)
            go_wp2_with fail
            go_roundw
            case measure => first | omega | (simp [RowKit.intOf]; omega)
            case rel =>
              refine ⟨k + 1, n' + nq, by omega, by go_num, fun i hi => ?_, by rw [HW.out, World.drewN_drewN]⟩
              by_cases e : i = k
              · subst e; rw [G1.out, G2.out]
              · exact HP.out i (by omega)
          · have HR := Lib.hid (show sameB c1 T1 N1 c1 T2 N2 = false from decide_eq_false fun h => hxy (by
              have e := G1.out
              rw [h.2.2, G2.out] at e
              exact (Option.some.inj e).symm))
            have hne : (x != y) = true := bne_iff_ne.2 hxy
            clear hxy
            go_wp2_with fail
            go_quiet (fail)
            go_wp2_with fail
            go_ret
            exact ⟨by rw [HR.out]; rfl, below_drewN HBW.out _⟩
        · obtain rfl : k = m1 := by omega
          have HNN := Lib.hid (rows_ext HN.out.1 HN.out.2 HP.out)
          have HR := Lib.hid (show sameB c1 T1 N1 c1 T2 N2 = true from decide_eq_true ⟨rfl, HTT.out, HNN.out⟩)
          clear hlt
          go_wp2_with fail
          go_ret
          exact ⟨by rw [HR.out]; rfl, HBW.out⟩
end Go.Proofs.YtfdffiphlpeegaaDoor
