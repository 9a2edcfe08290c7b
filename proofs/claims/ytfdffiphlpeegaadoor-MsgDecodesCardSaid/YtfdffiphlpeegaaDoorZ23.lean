/- Contracts and mathematics: MSame, DIs, DRead0, DReadnone. -/
import Derived.Test.YtfdffiphlpeegaaDoorZ22
import Derived.Test.YtfdffiphlpeegaaDoorZ8
import Derived.Defers
import Derived.Recover
namespace Go.Proofs.YtfdffiphlpeegaaDoor
open Go.RowKit Go.Lib Go.WideShapes

def sameB (c1 : UInt8) (T1 : List Bs) (N1 : List Int) (c2 : UInt8) (T2 : List Bs) (N2 : List Int) : Bool := decide (c1 = c2 ∧ T1 = T2 ∧ N1 = N2)

/-- Rows that are the same as far as they go, and are as long, are the same. -/
theorem rows_ext {α : Type} {A B : List α} {n : Nat} (hA : A.length = n) (hB : B.length = n) (h : ∀ i, i < n → A[i]? = B[i]?) : A = B := by
  apply List.ext_getElem?
  intro i
  by_cases hi : i < n
  · exact h i hi
  · rw [List.getElem?_eq_none (by omega), List.getElem?_eq_none (by omega)]

set_option maxRecDepth 100000 in
set_option maxHeartbeats 16000000 in
theorem same_any (w : World) (c1 c2 : UInt8) (T1 T2 : List Bs) (N1 N2 : List Int) (tv1 nv1 tv2 nv2 : Value) (hT1 : TextsIn w tv1 T1) (hN1 : NumsIn w nv1 N1) (hT2 : TextsIn w tv2 T2) (hN2 : NumsIn w nv2 N2) :
    Calls Tryd.prog 12 #[.agg #[.int .u8 (c1.toNat : Nat), tv1, nv1], .agg #[.int .u8 (c2.toNat : Nat), tv2, nv2]] w fun e w' => e = .returned (.bool (sameB c1 T1 N1 c2 T2 N2)) ∧ Below w.heap.size w w' := by
  obtain ⟨a1, n1, s1, rfl, ht1, hb1, hm1, hc1⟩ := hT1
  obtain ⟨a2, n2, s2, rfl, ht2, hb2, hm2, hc2⟩ := hT2
  obtain ⟨b1, m1, r1, rfl, hn1, hd1, hx1, he1⟩ := hN1
  obtain ⟨b2, m2, r2, rfl, hn2, hd2, hx2, he2⟩ := hN2
  obtain ⟨W0, hW0⟩ : ∃ x, x = ((w.alloc (.cells #[.int .u8 (c1.toNat : Nat), .slice a1 n1 s1, .slice b1 m1 r1] 32)).alloc (.cells #[.int .u8 (c2.toNat : Nat), .slice a2 n2 s2, .slice b2 m2 r2] 32)) := ⟨_, rfl⟩
  have HB := Lib.hid (show Below w.heap.size w W0 by rw [hW0]; exact ((Below.refl _ _).alloc (Nat.le_refl _) _).alloc (by simp) _)
  have k0 : W0.cell? ⟨w.heap.size, 0, none⟩ = some (.int .u8 (c1.toNat : Nat)) := by rw [hW0]; simp [go_sem]
  have k1 : W0.cell? ⟨w.heap.size, 1, none⟩ = some (.slice a1 n1 s1) := by rw [hW0]; simp [go_sem]
  have k2 : W0.cell? ⟨w.heap.size, 2, none⟩ = some (.slice b1 m1 r1) := by rw [hW0]; simp [go_sem]
  have l0 : W0.cell? ⟨w.heap.size + 1, 0, none⟩ = some (.int .u8 (c2.toNat : Nat)) := by rw [hW0]; simp [go_sem]
  have l1 : W0.cell? ⟨w.heap.size + 1, 1, none⟩ = some (.slice a2 n2 s2) := by rw [hW0]; simp [go_sem]
  have l2 : W0.cell? ⟨w.heap.size + 1, 2, none⟩ = some (.slice b2 m2 r2) := by rw [hW0]; simp [go_sem]
  have KK := Lib.hid (And.intro k1 (And.intro k2 (And.intro l1 l2)))
  have HE := Lib.hid hW0
  have HT := Lib.hid (And.intro ht1 ht2)
  have HN := Lib.hid (And.intro hn1 hn2)
  have C1 := Lib.hid hc1; have C2 := Lib.hid hc2; have E1 := Lib.hid he1; have E2 := Lib.hid he2
  have q1 : (n1 : Int) ≤ 9223372036854775807 := by omega
  have q2 : (m1 : Int) ≤ 9223372036854775807 := by omega
  clear hW0 ht1 ht2 hn1 hn2 hc1 hc2 he1 he2 hb1 hb2 hm1 hm2 hd1 hd2 hx1 hx2
  by_cases hc : ¬ c1 = c2
  · have hcb : ((c1.toNat : Int) != (c2.toNat : Int)) = true := by
      rw [bne_iff_ne]; intro e; exact hc (UInt8.toNat_inj.1 (Int.ofNat.inj e))
    have HR := Lib.hid (show sameB c1 T1 N1 c2 T2 N2 = false from decide_eq_false fun h => hc h.1)
    clear hc
    go_enter Tryd.func12, Tryd.ntmps12
    go_wp2_with fail
    rw [← HE.out]
    go_ret
    exact ⟨by rw [HR.out]; rfl, HB.out⟩
  replace hc := Decidable.not_not.1 hc
  subst hc
  by_cases hn : ¬ n1 = n2
  · have hnb : ((n1 : Int) != (n2 : Int)) = true := by rw [bne_iff_ne]; omega
    have HR := Lib.hid (show sameB c1 T1 N1 c1 T2 N2 = false from decide_eq_false fun h => hn (by rw [← HT.out.1, ← HT.out.2, h.2.1]))
    clear hn
    go_enter Tryd.func12, Tryd.ntmps12
    go_wp2_with fail
    rw [← HE.out]
    go_ret
    exact ⟨by rw [HR.out]; rfl, HB.out⟩
  replace hn := Decidable.not_not.1 hn
  subst hn
  by_cases hm : ¬ m1 = m2
  · have hmb : ((m1 : Int) != (m2 : Int)) = true := by rw [bne_iff_ne]; omega
    have HR := Lib.hid (show sameB c1 T1 N1 c1 T2 N2 = false from decide_eq_false fun h => hm (by rw [← HN.out.1, ← HN.out.2, h.2.2]))
    clear hm
    go_enter Tryd.func12, Tryd.ntmps12
    go_wp2_with fail
    rw [← HE.out]
    go_ret
    exact ⟨by rw [HR.out]; rfl, HB.out⟩
  replace hm := Decidable.not_not.1 hm
  subst hm
  go_enter Tryd.func12, Tryd.ntmps12
  go_wp2_with fail
  rw [← HE.out]
  clear k0 k1 k2 l0 l1 l2
  go_loopw [5, 5] (fun i _ wx => ∃ j n : Nat, j ≤ n1 ∧ i = .int .i64 j ∧ (∀ i, i < j → T1[i]? = T2[i]?) ∧ wx = W0.drewN n) (fun i _ _ => n1 - (RowKit.intOf i).toNat)
  case atStart => exact ⟨0, 0, Nat.zero_le _, rfl, fun i hi => by omega, rfl⟩
  case round =>
    obtain ⟨j, n, hj, rfl, hp, hW⟩ := hrel
    have HW := Lib.hid hW
    have HP := Lib.hid hp
    have k1 : wr.cell? ⟨w.heap.size, 1, none⟩ = some (.slice a1 n1 s1) := by rw [hW]; exact KK.out.1
    have l1 : wr.cell? ⟨w.heap.size + 1, 1, none⟩ = some (.slice a2 n1 s2) := by rw [hW]; exact KK.out.2.2.1
    have k2 : wr.cell? ⟨w.heap.size, 2, none⟩ = some (.slice b1 m1 r1) := by rw [hW]; exact KK.out.2.1
    have l2 : wr.cell? ⟨w.heap.size + 1, 2, none⟩ = some (.slice b2 m1 r2) := by rw [hW]; exact KK.out.2.2.2
    have HBW := Lib.hid (show Below w.heap.size w wr by rw [hW]; exact below_drewN HB.out _)
    clear hp hW
    by_cases hlt : j < n1
    · have hlt' : (j : Int) < n1 := by omega
      have hj1 : j < T1.length := by rw [HT.out.1]; exact hlt
      have hj2 : j < T2.length := by rw [HT.out.2]; exact hlt
      obtain ⟨g, off, rfl, hg, hcell⟩ := C1.out.resolve_left (fun h => by rw [h] at hj1; cases hj1)
      obtain ⟨g', off', rfl, hg', hcell'⟩ := C2.out.resolve_left (fun h => by rw [h] at hj2; cases hj2)
      have d0 := (HBW.out.cell (p := ⟨g, off + j, none⟩) hg).trans (hcell j _ (List.getElem?_eq_getElem hj1))
      have d1 := (HBW.out.cell (p := ⟨g', off' + j, none⟩) hg').trans (hcell' j _ (List.getElem?_eq_getElem hj2))
      have G1 := Lib.hid (List.getElem?_eq_getElem hj1)
      have G2 := Lib.hid (List.getElem?_eq_getElem hj2)
      generalize T1[j] = x at d0 G1
      generalize T2[j] = y at d1 G2
      clear hcell hcell' hj1 hj2
      by_cases hxy : x = y
      · subst hxy
        generalize (⟨x.toArray⟩ : ByteArray) = xb at d0 d1
        have hne : (xb.toList == xb.toList) = true := by simp
        go_wp2_with fail
        go_quiet (fail)
        go_wp2_with fail
        go_roundw
        case measure => first | omega | (simp [RowKit.intOf]; omega)
        case rel =>
          refine ⟨j + 1, n + nq, by omega, by go_num, fun i hi => ?_, by rw [HW.out, World.drewN_drewN]⟩
          by_cases e : i = j
          · subst e; rw [G1.out, G2.out]
          · exact HP.out i (by omega)
      · have HR := Lib.hid (show sameB c1 T1 N1 c1 T2 N2 = false from decide_eq_false fun h => hxy (by
          have e := G1.out
          rw [h.2.1, G2.out] at e
          exact (Option.some.inj e).symm))
        have hne : ((⟨x.toArray⟩ : ByteArray).toList == (⟨y.toArray⟩ : ByteArray).toList) = false := by
          apply beq_eq_false_iff_ne.2; intro e; exact hxy (by have := toList_inj e; simpa using this)
        generalize (⟨x.toArray⟩ : ByteArray) = xb at d0 hne
        generalize (⟨y.toArray⟩ : ByteArray) = yb at d1 hne
        clear hxy
        go_wp2_with fail
        go_quiet (fail)
        go_wp2_with fail
        go_ret
        exact ⟨by rw [HR.out]; rfl, below_drewN HBW.out _⟩
    · obtain rfl : j = n1 := by omega
      have HTT := Lib.hid (rows_ext HT.out.1 HT.out.2 HP.out)
      clear hlt
      go_wp2_with fail
      clear k1 l1 k2 l2
      go_loopw [6, 6] (fun i _ wx => ∃ k n : Nat, k ≤ m1 ∧ i = .int .i64 k ∧ (∀ i, i < k → N1[i]? = N2[i]?) ∧ wx = W0.drewN n) (fun i _ _ => m1 - (RowKit.intOf i).toNat)
      case atStart => exact ⟨0, n, Nat.zero_le _, rfl, fun i hi => by omega, HW.out⟩
      case round =>
        obtain ⟨k, n', hk, rfl, hp, hW⟩ := hrel
        have HW := Lib.hid hW
        have HP := Lib.hid hp
        have k2 : wr.cell? ⟨w.heap.size, 2, none⟩ = some (.slice b1 m1 r1) := by rw [hW]; exact KK.out.2.1
        have l2 : wr.cell? ⟨w.heap.size + 1, 2, none⟩ = some (.slice b2 m1 r2) := by rw [hW]; exact KK.out.2.2.2
        have HBW := Lib.hid (show Below w.heap.size w wr by rw [hW]; exact below_drewN HB.out _)
        clear hp hW
        by_cases hlt : k < m1
        · have hlt' : (k : Int) < m1 := by omega
          have hj1 : k < N1.length := by rw [HN.out.1]; exact hlt
          have hj2 : k < N2.length := by rw [HN.out.2]; exact hlt
          obtain ⟨g, off, rfl, hg, hcell⟩ := E1.out.resolve_left (fun h => by rw [h] at hj1; cases hj1)
          obtain ⟨g', off', rfl, hg', hcell'⟩ := E2.out.resolve_left (fun h => by rw [h] at hj2; cases hj2)
          have d0 := (HBW.out.cell (p := ⟨g, off + k, none⟩) hg).trans (hcell k _ (List.getElem?_eq_getElem hj1))
          have d1 := (HBW.out.cell (p := ⟨g', off' + k, none⟩) hg').trans (hcell' k _ (List.getElem?_eq_getElem hj2))
          have G1 := Lib.hid (List.getElem?_eq_getElem hj1)
          have G2 := Lib.hid (List.getElem?_eq_getElem hj2)
          generalize N1[k] = x at d0 G1
          generalize N2[k] = y at d1 G2
          clear hcell hcell' hj1 hj2
          by_cases hxy : x = y
          · subst hxy
            have hne : (x != x) = false := by simp
            go_wp2_with fail
            go_quiet (fail)
            go_wp2_with fail
            go_roundw
            case measure => first | omega | (simp [RowKit.intOf]; omega)
            case rel =>
              refine ⟨k + 1, n' + nq, by omega, by go_num, fun i hi => ?_, by rw [HW.out, World.drewN_drewN]⟩
              by_cases e : i = k
              · subst e; rw [G1.out, G2.out]
              · exact HP.out i (by omega)
          · have HR := Lib.hid (show sameB c1 T1 N1 c1 T2 N2 = false from decide_eq_false fun h => hxy (by
              have e := G1.out
              rw [h.2.2, G2.out] at e
              exact (Option.some.inj e).symm))
            have hne : (x != y) = true := bne_iff_ne.2 hxy
            clear hxy
            go_wp2_with fail
            go_quiet (fail)
            go_wp2_with fail
            go_ret
            exact ⟨by rw [HR.out]; rfl, below_drewN HBW.out _⟩
        · obtain rfl : k = m1 := by omega
          have HNN := Lib.hid (rows_ext HN.out.1 HN.out.2 HP.out)
          have HR := Lib.hid (show sameB c1 T1 N1 c1 T2 N2 = true from decide_eq_true ⟨rfl, HTT.out, HNN.out⟩)
          clear hlt
          go_wp2_with fail
          go_ret
          exact ⟨by rw [HR.out]; rfl, HBW.out⟩
end Go.Proofs.YtfdffiphlpeegaaDoor

namespace Go.Proofs.YtfdffiphlpeegaaDoor
open Go.RowKit Go.Lib Go.WideShapes

theorem isd_new (w0 : World) (S : Bs) : IsD w0 (w0.alloc (.cells #[.string ⟨S.toArray⟩, .slice none 0 0, .slice none 0 0] 60)) ⟨S, [], []⟩ := by
  refine ⟨.slice none 0 0, .slice none 0 0, (Below.refl _ _).alloc (Nat.le_refl _) _, by rw [World.size_alloc]; exact Nat.lt_succ_self _, ?_, ?_, ?_, ?_, ?_, ?_, ⟨rfl, .inl ⟨rfl, rfl⟩⟩, ⟨rfl, .inl ⟨rfl, rfl⟩⟩⟩ <;> simp [go_sem]
theorem own_textsIn {w : World} {base : Nat} {v : Value} {T : List Bs} (h : w.ownsRow base 9 1 v T.length (tcells T)) : TextsIn w v T := by
  rcases h.2 with ⟨rfl, h0⟩ | ⟨g, cap, cur, rfl, hb, hg, hn, hm, hc, ht⟩
  · exact ⟨none, 0, 0, rfl, h0, Nat.le_refl _, by omega, .inl (List.length_eq_zero_iff.1 h0)⟩
  · refine ⟨_, T.length, cap, rfl, rfl, hn, by unfold maxLen at hm; omega, .inr ⟨g, 0, rfl, (Array.getElem?_eq_some_iff.1 hg).1, fun i t hi => ?_⟩⟩
    rw [Nat.zero_add, cell_of_row w g i cur 9 (0, 0) hg]
    have hl : i < T.length := (List.getElem?_eq_some_iff.1 hi).1
    have hu : (tcells T)[i]? = some (.string ⟨t.toArray⟩) := by simp [tcells, hi]
    rw [← ht, List.getElem?_take] at hu
    split at hu
    · simpa using hu
    · cases hu
theorem own_numsIn {w : World} {base : Nat} {v : Value} {N : List Int} (h : w.ownsRow base 3 1 v N.length (ncells N)) : NumsIn w v N := by
  rcases h.2 with ⟨rfl, h0⟩ | ⟨g, cap, cur, rfl, hb, hg, hn, hm, hc, ht⟩
  · exact ⟨none, 0, 0, rfl, h0, Nat.le_refl _, by omega, .inl (List.length_eq_zero_iff.1 h0)⟩
  · refine ⟨_, N.length, cap, rfl, rfl, hn, by unfold maxLen at hm; omega, .inr ⟨g, 0, rfl, (Array.getElem?_eq_some_iff.1 hg).1, fun i t hi => ?_⟩⟩
    rw [Nat.zero_add, cell_of_row w g i cur 3 (0, 0) hg]
    have hl : i < N.length := (List.getElem?_eq_some_iff.1 hi).1
    have hu : (ncells N)[i]? = some (.int .i64 t) := by simp [ncells, hi]
    rw [← ht, List.getElem?_take] at hu
    split at hu
    · simpa using hu
    · cases hu

set_option maxRecDepth 100000 in
set_option maxHeartbeats 4000000 in
theorem iscancel_any (w : World) (S : Bs) (hl : S.length ≤ 800000) :
    Calls Tryd.prog 24 #[.string ⟨S.toArray⟩] w fun e w' => e = .returned (.bool (isCancel S)) ∧ Below w.heap.size w w' := by
  obtain ⟨sb, hsb⟩ : ∃ sb : ByteArray, sb = ⟨S.toArray⟩ := ⟨_, rfl⟩
  have hsz : sb.size = S.length := by rw [hsb, bsize]
  have HD := Lib.hid (isd_new w S)
  rw [← hsb] at HD ⊢
  have HSZ := Lib.hid hsz
  have hsz2 : sb.size ≤ 800000 := by omega
  clear hsb
  by_cases h4 : 4 ≤ S.length
  · have h4' : (4 : Int) ≤ sb.size := by omega
    have hx : rSigned 4 ⟨S, [], []⟩ = some (sgn 4 (unsig (S.take 4)), ⟨S.drop 4, [], []⟩) := by
      unfold rSigned rTake
      rw [if_pos h4]; rfl
    have HS := Lib.hid (signed_four w _ ⟨S, [], []⟩ (by show S.length ≤ _; omega) HD.out)
    rw [hx] at HS
    have HR := Lib.hid (show isCancel S = (sgn 4 (unsig (S.take 4)) == 80877102) by
      unfold isCancel
      by_cases h : sgn 4 (unsig (S.take 4)) = 80877102 <;> simp [h, h4])
    rw [HR.out]
    generalize sgn 4 (unsig (S.take 4)) = n at HS
    clear h4 hx hsz hl
    go_enter Tryd.func24, Tryd.ntmps24
    go_wp2_with fail
    refine HS.out.mono ?_; rintro e w1 (⟨n', s1', h, rfl, hI⟩ | ⟨h, _, _⟩)
    case inr => cases h
    obtain ⟨rfl, rfl⟩ := Prod.mk.inj (Option.some.inj h)
    obtain ⟨_, _, hD⟩ := hI
    have HB := Lib.hid hD.below
    clear hD h
    go_wp2_with fail
    go_ret
    exact ⟨rfl, HB.out⟩
  · have h4' : ¬ (4 : Int) ≤ sb.size := by omega
    have h5 : decide ((4 : Int) ≤ sb.size) = false := decide_eq_false h4'
    have HR := Lib.hid (show isCancel S = false from decide_eq_false fun h => h4 h.1)
    rw [HR.out]
    clear h4 hsz hl
    go_enter Tryd.func24, Tryd.ntmps24
    go_wp2_with fail
    go_ret
    exact ⟨rfl, (Below.refl _ _).alloc (Nat.le_refl _) _⟩

theorem catch_read (b c : Nat) (x0 x1 x2 y : Value) (u : TypeId) (pv : Value) (older : List PanicEntry) (w : World) (hbc : b ≠ c)
    (c0 : w.cell? ⟨b, 0, none⟩ = some x0) (c1 : w.cell? ⟨b, 1, none⟩ = some x1) (c2 : w.cell? ⟨b, 2, none⟩ = some x2) (c3 : w.cell? ⟨c, 0, none⟩ = some y)
    (f0 : w.frozen? ⟨b, 0, none⟩ = false) (f1 : w.frozen? ⟨b, 1, none⟩ = false) (f2 : w.frozen? ⟨b, 2, none⟩ = false) (f3 : w.frozen? ⟨c, 0, none⟩ = false) :
    CallsD Tryd.prog 21 #[.pointer (some ⟨b, 0, none⟩), .pointer (some ⟨c, 0, none⟩)] (.panicking ({ v := .iface u pv, recovered := false } :: older)) w fun e u' w' =>
      e = .returned (.tuple #[]) ∧ u' = .panicking ({ v := .iface u pv, recovered := true } :: older) ∧
        w' = (((w.setCell ⟨b, 0, none⟩ (.int .u8 0)).setCell ⟨b, 1, none⟩ (.slice none 0 0)).setCell ⟨b, 2, none⟩ (.slice none 0 0)).setCell ⟨c, 0, none⟩ (.int .i64 2) := by
  refine callsD_of_wpS Tryd.func21 rfl fun c₀ cs hu => ?_
  apply wpS_seq
  apply wpS_region
  simp [wpOpsS, go_sem, recoverD, hu, Tryd.ntmps21, Exit.thenS]
  refine wpS_cond (t := true) (by simp [Act.eval, Array.replicate]) ?_
  simp only [if_true]
  apply wpS_region
  simp [wpOpsS, go_sem, c0, c1, c2, c3, f0, f1, f2, f3, bodyPostS, results, Tryd.results21]

theorem catch_idle_read (b c : Nat) (w : World) :
    CallsD Tryd.prog 21 #[.pointer (some ⟨b, 0, none⟩), .pointer (some ⟨c, 0, none⟩)] .returning w fun e u' w' => e = .returned (.tuple #[]) ∧ u' = .returning ∧ w' = w := by
  refine callsD_of_wpS Tryd.func21 rfl fun c₀ cs hu => ?_
  apply wpS_seq
  apply wpS_region
  simp [wpOpsS, go_sem, recoverD, hu, Tryd.ntmps21, Exit.thenS]
  refine wpS_cond (t := false) (by simp [Act.eval, Array.replicate]) ?_
  simp only [Bool.false_eq_true, if_false]
  refine wpS_of_wp (wp_skip ?_)
  cases c₀
  simp_all [bodyPostS, results, Tryd.results21]
end Go.Proofs.YtfdffiphlpeegaaDoor

namespace Go.Proofs.YtfdffiphlpeegaaDoor
open Go.RowKit Go.Lib Go.WideShapes

theorem rAll_append (a b : Bs) : ∀ s, rAll (a ++ b) s = (rAll a s).bind (rAll b) := by
  induction a with
  | nil => intro s; rfl
  | cons c a ih =>
    intro s
    rw [List.cons_append, rAll, rAll]
    cases rField c s with
    | none => rfl
    | some s1 => exact ih s1
theorem rAll_next {l : Bs} {j : Nat} {c : UInt8} {s x x' : RS} (h : rAll (l.take j) s = some x) (hc : l[j]? = some c) (hf : rField c x = some x') : rAll (l.take (j + 1)) s = some x' := by
  obtain ⟨h1, e1⟩ := List.getElem?_eq_some_iff.1 hc
  rw [List.take_succ_eq_append_getElem h1, rAll_append, h, e1]
  show (rField c x).bind (rAll []) = _
  rw [hf]; rfl
theorem rAll_fail {l : Bs} {j : Nat} {c : UInt8} {s x : RS} (h : rAll (l.take j) s = some x) (hc : l[j]? = some c) (hf : rField c x = none) : rAll l s = none := by
  obtain ⟨h1, e1⟩ := List.getElem?_eq_some_iff.1 hc
  have e : l = l.take j ++ (c :: l.drop (j + 1)) := by rw [← e1, ← List.drop_eq_getElem_cons h1, List.take_append_drop]
  rw [e, rAll_append, h]
  show (rField c x).bind _ = none
  rw [hf]; rfl
theorem readL_some {back : Bool} {c : UInt8} {S : Bs} {l : Bs} (h : lay back c = some l) (hc : ¬ (back = false ∧ c = 0 ∧ isCancel S = true)) : readL back c S = (rAll l ⟨S, [], []⟩).bind rDone := by
  unfold readL layR
  rw [if_neg hc, h]; rfl
theorem readL_cancel {S : Bs} (h : isCancel S = true) : readL false 0 S = (rAll [105, 105, 105] ⟨S, [], []⟩).bind rDone := by
  unfold readL layR
  rw [if_pos ⟨rfl, rfl, h⟩]; rfl
theorem readL_none {back : Bool} {c : UInt8} {S : Bs} (h : lay back c = none) : readL back c S = none := by
  unfold readL layR
  by_cases hc : back = false ∧ c = 0 ∧ isCancel S = true
  · obtain ⟨rfl, rfl, _⟩ := hc
    rw [lay_bare] at h; cases h
  · rw [if_neg hc, h]; rfl

theorem own_four {w : World} {base n : Nat} {e : TypeId} {v : Value} {xs : List Value} (h : w.ownsRow base e 1 v n xs) (b c : Nat) (hb : b < base) (hc : c < base) (v0 v1 v2 v3 : Value) : ((((w.setCell ⟨b, 0, none⟩ v0).setCell ⟨b, 1, none⟩ v1).setCell ⟨b, 2, none⟩ v2).setCell ⟨c, 0, none⟩ v3).drew.ownsRow base e 1 v n xs :=
  (ownsRow_setCell_below (ownsRow_setCell_below (ownsRow_setCell_below (ownsRow_setCell_below h (a := ⟨b, 0, none⟩) hb v0) (a := ⟨b, 1, none⟩) hb v1) (a := ⟨b, 2, none⟩) hb v2) (a := ⟨c, 0, none⟩) hc v3).drew

theorem own_base {w : World} {b b' n : Nat} {e : TypeId} {v : Value} {xs : List Value} (h : w.ownsRow b e 1 v n xs) (hb : b' ≤ b) : w.ownsRow b' e 1 v n xs := by
  refine ⟨h.1, h.2.imp id ?_⟩
  rintro ⟨g, cap, cur, h1, h2, h3⟩
  exact ⟨g, cap, cur, h1, Nat.le_trans hb h2, h3⟩

/-- What a reading leaves: a message, whose rows lie in memory; or none. -/
def MsgOut (w : World) (c : UInt8) (err : Int) (r : Option (List Bs × List Int)) (e : Ending) (w' : World) : Prop :=
  match r with
  | some p => ∃ tv nv, e = .returned (.tuple #[.agg #[.int .u8 (c.toNat : Nat), tv, nv], .int .i64 0]) ∧ w'.ownsRow w.heap.size 9 1 tv p.1.length (tcells p.1) ∧ w'.ownsRow w.heap.size 3 1 nv p.2.length (ncells p.2) ∧ Below w.heap.size w w'
  | none => e = .returned (.tuple #[.agg #[.int .u8 0, .slice none 0 0, .slice none 0 0], .int .i64 err]) ∧ Below w.heap.size w w'

end Go.Proofs.YtfdffiphlpeegaaDoor

namespace Go.Proofs.YtfdffiphlpeegaaDoor
open Go.RowKit Go.Lib Go.WideShapes

set_option maxRecDepth 100000 in
set_option maxHeartbeats 16000000 in
theorem read_none (w : World) (back : Bool) (c : UInt8) (S : Bs) (hl : S.length ≤ 800000) (hlay : lay back c = none) :
    Calls Tryd.prog 16 #[.bool back, .agg #[.int .u8 (c.toNat : Nat), .string ⟨S.toArray⟩]] w (MsgOut w c 2 (readL back c S)) := by
  have hmf : ∀ (fn : Fn) (first cap : Array Value) (w : World), (Instr.makeFunc fn first cap).run Tryd.prog w = .ok (.func fn first cap) w := fun _ _ _ _ => rfl
  obtain ⟨ci, hci⟩ : ∃ ci : Int, ci = (c.toNat : Nat) := ⟨_, rfl⟩
  obtain ⟨sb, hsb⟩ : ∃ sb : ByteArray, sb = ⟨S.toArray⟩ := ⟨_, rfl⟩
  obtain ⟨R, hR⟩ : ∃ R, R = readL back c S := ⟨_, rfl⟩
  rw [← hR, ← hci, ← hsb]
  have HCI := Lib.hid hci; have HR := Lib.hid hR
  obtain ⟨W0, hW0⟩ : ∃ x, x = ((w.alloc (.cells #[.int .u8 ci, .string sb] 23)).alloc (.cells #[.int .u8 0, .slice none 0 0, .slice none 0 0] 28)).alloc (.cells #[.int .i64 0] 29) := ⟨_, rfl⟩
  have hsz : W0.heap.size = w.heap.size + 1 + 1 + 1 := by rw [hW0]; simp
  have HB := Lib.hid (show Below w.heap.size w W0 by rw [hW0]; exact (((Below.refl _ _).alloc (Nat.le_refl _) _).alloc (by simp) _).alloc (by simp; omega) _)
  have HK := Lib.hid (show W0.cell? ⟨w.heap.size + 1, 0, none⟩ = some (.int .u8 0) ∧ W0.cell? ⟨w.heap.size + 1, 1, none⟩ = some (.slice none 0 0) ∧ W0.cell? ⟨w.heap.size + 1, 2, none⟩ = some (.slice none 0 0) ∧ W0.cell? ⟨w.heap.size + 1 + 1, 0, none⟩ = some (.int .i64 0) ∧ W0.frozen? ⟨w.heap.size + 1, 0, none⟩ = false ∧ W0.frozen? ⟨w.heap.size + 1, 1, none⟩ = false ∧ W0.frozen? ⟨w.heap.size + 1, 2, none⟩ = false ∧ W0.frozen? ⟨w.heap.size + 1 + 1, 0, none⟩ = false by rw [hW0]; simp [go_sem])
  have F0 := Lib.hid (show ∀ W, Below W0.heap.size W0 W → W.cell? ⟨w.heap.size, 0, none⟩ = some (.int .u8 ci) ∧ W.cell? ⟨w.heap.size, 1, none⟩ = some (.string sb) from by
    intro W hW
    have k : ∀ i, W.cell? ⟨w.heap.size, i, none⟩ = W0.cell? ⟨w.heap.size, i, none⟩ := fun i => hW.cell (p := ⟨w.heap.size, i, none⟩) (by show w.heap.size < _; omega)
    exact ⟨(k 0).trans (by rw [hW0]; simp [go_sem]), (k 1).trans (by rw [hW0]; simp [go_sem])⟩)
  have HNEW := Lib.hid (isd_new W0 S)
  have HRR := Lib.hid (show droom ⟨S, [], []⟩ ≤ 850000 by show S.length + 0 ≤ _; omega)
  have HE := Lib.hid hW0
  have HSZ := Lib.hid hsz
  have HIC := Lib.hid (fun W => iscancel_any W S hl)
  rw [← hsb] at HNEW HIC
  have HLY := Lib.hid (fun W => lay_any W back c)
  rw [← hci] at HLY
  clear hW0 hsz hR hsb hl
  rw [hlay] at HLY
  have HNO := Lib.hid (HR.out.trans (readL_none hlay))
  clear hlay hci
  go_enter_defers Tryd.func16, Tryd.ntmps16
  go_wp2_with fail
  refine (HLY.out _).mono ?_; rintro e w1 ⟨rfl, rfl⟩
  unfold layV
  go_wp2_with fail
  refine (demand_no _).mono ?_; rintro e w2 ⟨rfl, rfl⟩
  go_wp2_with fail
  rw [← HE.out]
  have kk := HK.out
  have b0 : W0.cell? ⟨w.heap.size + 1, 0, none⟩ = some (.int .u8 0) := ((Below.refl W0.heap.size W0).cell (p := ⟨w.heap.size + 1, 0, none⟩) (by show w.heap.size + 1 < _; rw [HSZ.out]; omega)).trans kk.1
  have b1 : W0.cell? ⟨w.heap.size + 1, 1, none⟩ = some (.slice none 0 0) := ((Below.refl W0.heap.size W0).cell (p := ⟨w.heap.size + 1, 1, none⟩) (by show w.heap.size + 1 < _; rw [HSZ.out]; omega)).trans kk.2.1
  have b2 : W0.cell? ⟨w.heap.size + 1, 2, none⟩ = some (.slice none 0 0) := ((Below.refl W0.heap.size W0).cell (p := ⟨w.heap.size + 1, 2, none⟩) (by show w.heap.size + 1 < _; rw [HSZ.out]; omega)).trans kk.2.2.1
  have b3 : W0.cell? ⟨w.heap.size + 1 + 1, 0, none⟩ = some (.int .i64 0) := ((Below.refl W0.heap.size W0).cell (p := ⟨w.heap.size + 1 + 1, 0, none⟩) (by show w.heap.size + 1 + 1 < _; rw [HSZ.out]; omega)).trans kk.2.2.2.1
  have g0 : W0.frozen? ⟨w.heap.size + 1, 0, none⟩ = false := ((Below.refl W0.heap.size W0).frozen (p := ⟨w.heap.size + 1, 0, none⟩) (by show w.heap.size + 1 < _; rw [HSZ.out]; omega)).trans kk.2.2.2.2.1
  have g1 : W0.frozen? ⟨w.heap.size + 1, 1, none⟩ = false := ((Below.refl W0.heap.size W0).frozen (p := ⟨w.heap.size + 1, 1, none⟩) (by show w.heap.size + 1 < _; rw [HSZ.out]; omega)).trans kk.2.2.2.2.2.1
  have g2 : W0.frozen? ⟨w.heap.size + 1, 2, none⟩ = false := ((Below.refl W0.heap.size W0).frozen (p := ⟨w.heap.size + 1, 2, none⟩) (by show w.heap.size + 1 < _; rw [HSZ.out]; omega)).trans kk.2.2.2.2.2.2.1
  have g3 : W0.frozen? ⟨w.heap.size + 1 + 1, 0, none⟩ = false := ((Below.refl W0.heap.size W0).frozen (p := ⟨w.heap.size + 1 + 1, 0, none⟩) (by show w.heap.size + 1 + 1 < _; rw [HSZ.out]; omega)).trans kk.2.2.2.2.2.2.2
  clear kk
  unfold errV
  refine leaves_cons (f := 21) (args := #[.pointer (some ⟨w.heap.size + 1, 0, none⟩), .pointer (some ⟨w.heap.size + 1 + 1, 0, none⟩)]) (by simp) (by simp [go_sem]) ?_
  refine (catch_read (w.heap.size + 1) (w.heap.size + 1 + 1) _ _ _ _ _ _ _ _ (by omega) b0 b1 b2 b3 g0 g1 g2 g3).mono ?_
  rintro e u' w'' ⟨rfl, rfl, rfl⟩
  have HNO := Lib.hid (show R = none from HNO.out)
  have HBB := Lib.hid (HB.out.trans ((Below.refl W0.heap.size W0).mono (by rw [HSZ.out]; omega)))
  rw [HNO.out]
  simp [Leaves, settle, results, Tryd.results16, go_sem, b0, b1, b2, b3]
  exact ⟨rfl, (((HBB.out.setCell (by show w.heap.size ≤ w.heap.size + 1; omega) _).setCell (by show w.heap.size ≤ w.heap.size + 1; omega) _).setCell (by show w.heap.size ≤ w.heap.size + 1; omega) _).setCell (by show w.heap.size ≤ w.heap.size + 1 + 1; omega) _⟩
end Go.Proofs.YtfdffiphlpeegaaDoor
