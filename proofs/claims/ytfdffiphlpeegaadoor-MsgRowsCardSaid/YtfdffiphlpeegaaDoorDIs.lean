/- The reader: is it a cancel? A reader that is made; what is read, as rows. -/
import Derived.Test.YtfdffiphlpeegaaDoorDField
import Derived.Test.YtfdffiphlpeegaaDoorMSame
import Derived.Defers
import Derived.Recover
namespace Go.Proofs.YtfdffiphlpeegaaDoor
open Go.RowKit Go.Lib Go.WideShapes

theorem isd_new (w0 : World) (S : Bs) : IsD w0 (w0.alloc (.cells #[.string ⟨S.toArray⟩, .slice none 0 0, .slice none 0 0] 60)) ⟨S, [], []⟩ := by
  refine ⟨.slice none 0 0, .slice none 0 0, (Below.refl _ _).alloc (Nat.le_refl _) _, by rw [World.size_alloc]; exact Nat.lt_succ_self _, ?_, ?_, ?_, ?_, ?_, ?_, ⟨rfl, .inl ⟨rfl, rfl⟩⟩, ⟨rfl, .inl ⟨rfl, rfl⟩⟩⟩ <;> simp [go_sem]
theorem own_textsIn {w : World} {base : Nat} {v : Value} {T : List Bs} (h : w.ownsRow base 9 1 v T.length (tcells T)) : TextsIn w v T := by
  rcases h.2 with ⟨rfl, h0⟩ | ⟨g, cap, cur, rfl, hb, hg, hn, hm, hc, ht⟩
  · exact ⟨none, 0, 0, rfl, h0, Nat.le_refl _, by omega, .inl (List.length_eq_zero_iff.1 h0)⟩
  · refine ⟨_, T.length, cap, rfl, rfl, hn, by unfold maxLen at hm; omega, .inr ⟨g, 0, rfl, (Array.getElem?_eq_some_iff.1 hg).1, fun i t hi => ?_⟩⟩
    rw [Nat.zero_add, cell_of_row w g i cur 9 (0, 0) hg]
    have hl : i < T.length := (List.getElem?_eq_some_iff.1 hi).1
    have hu : (tcells T)[i]? = some (.string ⟨t.toArray⟩) := by simp [tcells, hi]
    rw [← ht, List.getElem?_take] at hu
    split at hu
    · simpa using hu
    · cases hu
theorem own_numsIn {w : World} {base : Nat} {v : Value} {N : List Int} (h : w.ownsRow base 3 1 v N.length (ncells N)) : NumsIn w v N := by
  rcases h.2 with ⟨rfl, h0⟩ | ⟨g, cap, cur, rfl, hb, hg, hn, hm, hc, ht⟩
  · exact ⟨none, 0, 0, rfl, h0, Nat.le_refl _, by omega, .inl (List.length_eq_zero_iff.1 h0)⟩
  · refine ⟨_, N.length, cap, rfl, rfl, hn, by unfold maxLen at hm; omega, .inr ⟨g, 0, rfl, (Array.getElem?_eq_some_iff.1 hg).1, fun i t hi => ?_⟩⟩
    rw [Nat.zero_add, cell_of_row w g i cur 3 (0, 0) hg]
    have hl : i < N.length := (List.getElem?_eq_some_iff.1 hi).1
    have hu : (ncells N)[i]? = some (.int .i64 t) := by simp [ncells, hi]
    rw [← ht, List.getElem?_take] at hu
    split at hu
    · simpa using hu
    · cases hu

set_option maxRecDepth 100000 in
set_option maxHeartbeats 4000000 in
theorem iscancel_any (w : World) (S : Bs) (hl : S.length ≤ 800000) :
    Calls Tryd.prog 24 #[.string ⟨S.toArray⟩] w fun e w' => e = .returned (.bool (isCancel S)) ∧ Below w.heap.size w w' := by
  obtain ⟨sb, hsb⟩ : ∃ sb : ByteArray, sb = ⟨S.toArray⟩ := ⟨_, rfl⟩
  have hsz : sb.size = S.length := by rw [hsb, bsize]
  have HD := Lib.hid (isd_new w S)
  rw [← hsb] at HD ⊢
  have HSZ := Lib.hid hsz
  have hsz2 : sb.size ≤ 800000 := by omega
  clear hsb
  by_cases h4 : 4 ≤ S.length
  · have h4' : (4 : Int) ≤ sb.size := by omega
    have hx : rSigned 4 ⟨S, [], []⟩ = some (sgn 4 (unsig (S.take 4)), ⟨S.drop 4, [], []⟩) := by
      unfold rSigned rTake
      rw [if_pos h4]; rfl
    have HS := Lib.hid (signed_four w _ ⟨S, [], []⟩ (by show S.length ≤ _; omega) HD.out)
    rw [hx] at HS
    have HR := Lib.hid (show isCancel S = (sgn 4 (unsig (S.take 4)) == 80877102) by
      unfold isCancel
      by_cases h : sgn 4 (unsig (S.take 4)) = 80877102 <;> simp [h, h4])
    rw [HR.out]
    generalize sgn 4 (unsig (S.take 4)) = n at HS
    clear h4 hx hsz hl
    go_enter Tryd.func24, Tryd.ntmps24
    go_wp2_with fail
    refine HS.out.mono ?_; rintro e w1 (⟨n', s1', h, rfl, hI⟩ | ⟨h, _, _⟩)
    case inr => cases h
    obtain ⟨rfl, rfl⟩ := Prod.mk.inj (Option.some.inj h)
    obtain ⟨_, _, hD⟩ := hI
    have HB := Lib.hid hD.below
    clear hD h
    go_wp2_with fail
    go_ret
    exact ⟨rfl, HB.out⟩
  · have h4' : ¬ (4 : Int) ≤ sb.size := by omega
    have h5 : decide ((4 : Int) ≤ sb.size) = false := decide_eq_false h4'
    have HR := Lib.hid (show isCancel S = false from decide_eq_false fun h => h4 h.1)
    rw [HR.out]
    clear h4 hsz hl
    go_enter Tryd.func24, Tryd.ntmps24
    go_wp2_with fail
    go_ret
    exact ⟨rfl, (Below.refl _ _).alloc (Nat.le_refl _) _⟩

theorem catch_read (b c : Nat) (x0 x1 x2 y : Value) (u : TypeId) (pv : Value) (older : List PanicEntry) (w : World) (hbc : b ≠ c)
    (c0 : w.cell? ⟨b, 0, none⟩ = some x0) (c1 : w.cell? ⟨b, 1, none⟩ = some x1) (c2 : w.cell? ⟨b, 2, none⟩ = some x2) (c3 : w.cell? ⟨c, 0, none⟩ = some y)
    (f0 : w.frozen? ⟨b, 0, none⟩ = false) (f1 : w.frozen? ⟨b, 1, none⟩ = false) (f2 : w.frozen? ⟨b, 2, none⟩ = false) (f3 : w.frozen? ⟨c, 0, none⟩ = false) :
    CallsD Tryd.prog 21 #[.pointer (some ⟨b, 0, none⟩), .pointer (some ⟨c, 0, none⟩)] (.panicking ({ v := .iface u pv, recovered := false } :: older)) w fun e u' w' =>
      e = .returned (.tuple #[]) ∧ u' = .panicking ({ v := .iface u pv, recovered := true } :: older) ∧
        w' = (((w.setCell ⟨b, 0, none⟩ (.int .u8 0)).setCell ⟨b, 1, none⟩ (.slice none 0 0)).setCell ⟨b, 2, none⟩ (.slice none 0 0)).setCell ⟨c, 0, none⟩ (.int .i64 2) := by
  refine callsD_of_wpS Tryd.func21 rfl fun c₀ cs hu => ?_
  apply wpS_seq
  apply wpS_region
  simp [wpOpsS, go_sem, recoverD, hu, Tryd.ntmps21, Exit.thenS]
  refine wpS_cond (t := true) (by simp [Act.eval, Array.replicate]) ?_
  simp only [if_true]
  apply wpS_region
  simp [wpOpsS, go_sem, c0, c1, c2, c3, f0, f1, f2, f3, bodyPostS, results, Tryd.results21]

theorem catch_idle_read (b c : Nat) (w : World) :
    CallsD Tryd.prog 21 #[.pointer (some ⟨b, 0, none⟩), .pointer (some ⟨c, 0, none⟩)] .returning w fun e u' w' => e = .returned (.tuple #[]) ∧ u' = .returning ∧ w' = w := by
  refine callsD_of_wpS Tryd.func21 rfl fun c₀ cs hu => ?_
  apply wpS_seq
  apply wpS_region
  simp [wpOpsS, go_sem, recoverD, hu, Tryd.ntmps21, Exit.thenS]
  refine wpS_cond (t := false) (by simp [Act.eval, Array.replicate]) ?_
  simp only [Bool.false_eq_true, if_false]
  refine wpS_of_wp (wp_skip ?_)
  cases c₀
  simp_all [bodyPostS, results, Tryd.results21]
end Go.Proofs.YtfdffiphlpeegaaDoor
