/- Contracts and mathematics: PRows, PParts, PPoint, PAssigns. -/
import Derived.Test.YtgopajddloeclaaDoorZ13
namespace Go.Proofs.YtgopajddloeclaaDoor
open Go.RowKit Go.Lib Go.WideShapes

/-- A row of tokens is what is left. -/
def RowOut (T' : List Tok) (w : World) (e : Ending) (w' : World) : Prop := Below w.heap.size w w' ∧ ∃ p' n' c', e = .returned (.slice p' n' c') ∧ T'.length = n' ∧ n' ≤ c' ∧ c' ≤ 9223372036854775807 ∧ TokW w' p' T'

theorem begins_some {T : List Tok} {W : Bs} (h : beginsW T W = true) : ∃ t r, T = t :: r := by
  cases T with
  | nil => cases h
  | cons t r => exact ⟨t, r, rfl⟩

/-- What lies behind the first token. -/
theorem behind_row {w : World} {g off n c : Nat} {t : Tok} {r : List Tok} (h : TokW w (some ⟨g, off, none⟩) (t :: r)) (hT : (t :: r).length = n) (hc : n ≤ c) : TokW w (some ⟨g, off + 4, none⟩) r ∧ r.length = n - 1 ∧ n - 1 ≤ c - 1 := by
  have := h.drop 1
  rw [Nat.one_mul] at this
  exact ⟨this, by rw [← hT]; simp, by omega⟩

set_option maxRecDepth 100000 in
set_option maxHeartbeats 2000000 in
theorem work_any (p : Option Addr) (T : List Tok) (n c : Nat) (w : World) (hT : T.length = n) (hn : n ≤ 100000) (hc : n ≤ c) (hc9 : c ≤ 9223372036854775807) (hA : TokW w p T) :
    Calls Tryd.prog 43 #[.slice p n c] w (RowOut (workW T) w) := by
  have HB := Lib.hid (fun (S : ByteArray) W h => begins_below p T n c S W hT hn h)
  have HA := Lib.hid hA; have HT := Lib.hid hT
  have e : workW T = if beginsW T (bytes { data := #[119, 111, 114, 107] }) || beginsW T (bytes { data := #[116, 114, 97, 110, 115, 97, 99, 116, 105, 111, 110] }) then T.drop 1 else T := rfl
  rw [e]
  clear e hA hT
  cases h1 : beginsW T (bytes { data := #[119, 111, 114, 107] }) with
  | true =>
    obtain ⟨t, r, rfl⟩ := begins_some h1
    obtain ⟨g, off, rfl, hg, hA⟩ := HA.out.first
    have HBH := Lib.hid (behind_row hA HT.out hc)
    have hn1 : (1 : Int) ≤ n := by rw [← HT.out, List.length_cons]; omega
    have hn2 : (n : Int) ≤ c := by omega
    have H1 := Lib.hid h1
    clear h1 hA
    by_cases hc1 : c = 1
    · subst hc1
      obtain rfl : n = 1 := by omega
      go_enter Tryd.func43, Tryd.ntmps43
      go_wp2_with fail
      refine (HB.out _ w HA.out).mono ?_; rintro e w1 ⟨rfl, hb1⟩
      rw [H1.out]
      have HB1 := Lib.hid hb1
      clear hb1
      go_wp2_with fail
      go_ret
      refine ⟨HB1.out, _, _, _, rfl, ?_, ?_, by omega, .inl ?_⟩
      · exact HBH.out.2.1
      · simp
      · exact List.length_eq_zero_iff.1 HBH.out.2.1
    · have hc2 : (2 : Int) ≤ c := by omega
      go_enter Tryd.func43, Tryd.ntmps43
      go_wp2_with fail
      refine (HB.out _ w HA.out).mono ?_; rintro e w1 ⟨rfl, hb1⟩
      rw [H1.out]
      have HB1 := Lib.hid hb1
      clear hb1
      go_wp2_with fail
      go_ret
      exact ⟨HB1.out, _, _, _, rfl, HBH.out.2.1, HBH.out.2.2, by omega, HBH.out.1.step HB1.out⟩
  | false =>
    have H1 := Lib.hid h1
    clear h1
    cases h2 : beginsW T (bytes { data := #[116, 114, 97, 110, 115, 97, 99, 116, 105, 111, 110] }) with
    | true =>
      obtain ⟨t, r, rfl⟩ := begins_some h2
      obtain ⟨g, off, rfl, hg, hA⟩ := HA.out.first
      have HBH := Lib.hid (behind_row hA HT.out hc)
      have hn1 : (1 : Int) ≤ n := by rw [← HT.out, List.length_cons]; omega
      have hn2 : (n : Int) ≤ c := by omega
      have H2 := Lib.hid h2
      clear h2 hA
      by_cases hc1 : c = 1
      · subst hc1
        obtain rfl : n = 1 := by omega
        go_enter Tryd.func43, Tryd.ntmps43
        go_wp2_with fail
        refine (HB.out _ w HA.out).mono ?_; rintro e w1 ⟨rfl, hb1⟩
        rw [H1.out]
        have HB1 := Lib.hid hb1
        clear hb1
        go_wp2_with fail
        refine (HB.out _ w1 (HA.out.step HB1.out)).mono ?_; rintro e w2 ⟨rfl, hb2⟩
        rw [H2.out]
        have HB2 := Lib.hid (HB1.out.step hb2 HB1.out.size)
        clear hb2
        go_wp2_with fail
        go_ret
        refine ⟨HB2.out, _, _, _, rfl, ?_, ?_, by omega, .inl ?_⟩
        · exact HBH.out.2.1
        · simp
        · exact List.length_eq_zero_iff.1 HBH.out.2.1
      · have hc2 : (2 : Int) ≤ c := by omega
        go_enter Tryd.func43, Tryd.ntmps43
        go_wp2_with fail
        refine (HB.out _ w HA.out).mono ?_; rintro e w1 ⟨rfl, hb1⟩
        rw [H1.out]
        have HB1 := Lib.hid hb1
        clear hb1
        go_wp2_with fail
        refine (HB.out _ w1 (HA.out.step HB1.out)).mono ?_; rintro e w2 ⟨rfl, hb2⟩
        rw [H2.out]
        have HB2 := Lib.hid (HB1.out.step hb2 HB1.out.size)
        clear hb2
        go_wp2_with fail
        go_ret
        exact ⟨HB2.out, _, _, _, rfl, HBH.out.2.1, HBH.out.2.2, by omega, HBH.out.1.step HB2.out⟩
    | false =>
      have H2 := Lib.hid h2
      clear h2
      go_enter Tryd.func43, Tryd.ntmps43
      go_wp2_with fail
      refine (HB.out _ w HA.out).mono ?_; rintro e w1 ⟨rfl, hb1⟩
      rw [H1.out]
      have HB1 := Lib.hid hb1
      clear hb1
      go_wp2_with fail
      refine (HB.out _ w1 (HA.out.step HB1.out)).mono ?_; rintro e w2 ⟨rfl, hb2⟩
      rw [H2.out]
      have HB2 := Lib.hid (HB1.out.step hb2 HB1.out.size)
      clear hb2
      go_wp2_with fail
      go_ret
      exact ⟨HB2.out, _, _, _, rfl, HT.out, hc, hc9, HA.out.step HB2.out⟩

set_option maxRecDepth 100000 in
set_option maxHeartbeats 2000000 in
theorem save_any (p : Option Addr) (T : List Tok) (n c : Nat) (w : World) (hT : T.length = n) (hn : n ≤ 100000) (hc : n ≤ c) (hc9 : c ≤ 9223372036854775807) (hA : TokW w p T) :
    Calls Tryd.prog 46 #[.slice p n c] w (RowOut (saveW T) w) := by
  have HB := Lib.hid (fun (S : ByteArray) W h => begins_below p T n c S W hT hn h)
  have HA := Lib.hid hA; have HT := Lib.hid hT
  have e : saveW T = if decide (1 < n) && beginsW T (bytes { data := #[115, 97, 118, 101, 112, 111, 105, 110, 116] }) then T.drop 1 else T := by unfold saveW; rw [hT]
  rw [e]
  clear e hA hT
  by_cases h0 : 1 < n
  · have h0' : (1 : Int) < n := by omega
    rw [decide_eq_true h0, Bool.true_and]
    cases h1 : beginsW T (bytes { data := #[115, 97, 118, 101, 112, 111, 105, 110, 116] }) with
    | true =>
      obtain ⟨t, r, rfl⟩ := begins_some h1
      obtain ⟨g, off, rfl, hg, hA⟩ := HA.out.first
      have HBH := Lib.hid (behind_row hA HT.out hc)
      have hn2 : (n : Int) ≤ c := by omega
      have H1 := Lib.hid h1
      have hc2 : (2 : Int) ≤ c := by omega
      clear h1 hA
      go_enter Tryd.func46, Tryd.ntmps46
      go_wp2_with fail
      refine (HB.out _ w HA.out).mono ?_; rintro e w1 ⟨rfl, hb1⟩
      rw [H1.out]
      have HB1 := Lib.hid hb1
      clear hb1
      go_wp2_with fail
      go_ret
      exact ⟨HB1.out, _, _, _, rfl, HBH.out.2.1, HBH.out.2.2, by omega, HBH.out.1.step HB1.out⟩
    | false =>
      have H1 := Lib.hid h1
      clear h1
      go_enter Tryd.func46, Tryd.ntmps46
      go_wp2_with fail
      refine (HB.out _ w HA.out).mono ?_; rintro e w1 ⟨rfl, hb1⟩
      rw [H1.out]
      have HB1 := Lib.hid hb1
      clear hb1
      go_wp2_with fail
      go_ret
      exact ⟨HB1.out, _, _, _, rfl, HT.out, hc, hc9, HA.out.step HB1.out⟩
  · have h0' : (n : Int) ≤ 1 := by omega
    rw [decide_eq_false h0, Bool.false_and]
    go_enter Tryd.func46, Tryd.ntmps46
    go_wp2_with fail
    go_ret
    exact ⟨Below.refl _ _, _, _, _, rfl, HT.out, hc, hc9, HA.out⟩
end Go.Proofs.YtgopajddloeclaaDoor

namespace Go.Proofs.YtgopajddloeclaaDoor
open Go.RowKit Go.Lib Go.WideShapes

theorem isname_any (k : UInt8) (t : Bs) (lo hi : Int) (w : World) :
    Calls Tryd.prog 70 #[.agg #[.int .u8 (k.toNat : Nat), .string ⟨t.toArray⟩, .int .i64 lo, .int .i64 hi]] w fun e w' => e = .returned (.bool (k == 119 || k == 113)) ∧ Below w.heap.size w w' := by
  have e1 : (k == 119) = decide (k.toNat = 119) := by rw [Bool.eq_iff_iff]; simp [← UInt8.toNat_inj]
  have e2 : (k == 113) = decide (k.toNat = 113) := by rw [Bool.eq_iff_iff]; simp [← UInt8.toNat_inj]
  rw [e1, e2]
  by_cases h1 : k.toNat = 119
  · have hb : ((k.toNat : Int) == 119) = true := by simp; omega
    rw [decide_eq_true h1]
    clear e1 e2 h1
    go_enter Tryd.func70, Tryd.ntmps70
    go_wp2_with fail
    go_ret
    exact ⟨rfl, (Below.refl _ _).alloc (Nat.le_refl _) _⟩
  · have hb : ((k.toNat : Int) == 119) = false := by simp; omega
    rw [decide_eq_false h1]
    by_cases h2 : k.toNat = 113
    · have hc : ((k.toNat : Int) == 113) = true := by simp; omega
      rw [decide_eq_true h2]
      clear e1 e2 h1 h2
      go_enter Tryd.func70, Tryd.ntmps70
      go_wp2_with fail
      go_ret
      exact ⟨rfl, (Below.refl _ _).alloc (Nat.le_refl _) _⟩
    · have hc : ((k.toNat : Int) == 113) = false := by simp; omega
      rw [decide_eq_false h2]
      clear e1 e2 h1 h2
      go_enter Tryd.func70, Tryd.ntmps70
      go_wp2_with fail
      go_ret
      exact ⟨rfl, (Below.refl _ _).alloc (Nat.le_refl _) _⟩


def CmdOut (q : Cmd × Bool) (w : World) (e : Ending) (w' : World) : Prop := e = .returned (.tuple #[q.1.val, .bool q.2]) ∧ Below w.heap.size w w'

/-- The result's own cells, not written yet. -/
structure Res (w w1 : World) : Prop where
  below : Below w.heap.size w w1
  lt : w.heap.size < w1.heap.size
  c0 : w1.cell? ⟨w.heap.size, 0, none⟩ = some (.int .u8 0)
  c1 : w1.cell? ⟨w.heap.size, 1, none⟩ = some (.string { data := #[] })
  c2 : w1.cell? ⟨w.heap.size, 2, none⟩ = some (.string { data := #[] })
  f0 : w1.frozen? ⟨w.heap.size, 0, none⟩ = false
  f1 : w1.frozen? ⟨w.heap.size, 1, none⟩ = false
  f2 : w1.frozen? ⟨w.heap.size, 2, none⟩ = false
theorem Res.start (w : World) : Res w (w.alloc (Obj.cells #[.int .u8 0, .string { data := #[] }, .string { data := #[] }] 27)) :=
  ⟨(Below.refl _ w).alloc (Nat.le_refl _) _, by simp, World.cell?_alloc_new _ _ _ _, World.cell?_alloc_new _ _ _ _, World.cell?_alloc_new _ _ _ _, World.frozen?_alloc_new _ _ _ _, World.frozen?_alloc_new _ _ _ _, World.frozen?_alloc_new _ _ _ _⟩
theorem Res.step {w w1 w2 : World} (h : Res w w1) (hb : Below w1.heap.size w1 w2) : Res w w2 :=
  ⟨h.below.step hb h.below.size, Nat.lt_of_lt_of_le h.lt hb.size, (hb.cell (p := ⟨w.heap.size, 0, none⟩) h.lt).trans h.c0, (hb.cell (p := ⟨w.heap.size, 1, none⟩) h.lt).trans h.c1, (hb.cell (p := ⟨w.heap.size, 2, none⟩) h.lt).trans h.c2,
    (hb.frozen (p := ⟨w.heap.size, 0, none⟩) h.lt).trans h.f0, (hb.frozen (p := ⟨w.heap.size, 1, none⟩) h.lt).trans h.f1, (hb.frozen (p := ⟨w.heap.size, 2, none⟩) h.lt).trans h.f2⟩
theorem res_put {w : World} {b : Nat} {x0 y0 z0 : Value} (h0 : w.cell? ⟨b, 0, none⟩ = some x0) (h1 : w.cell? ⟨b, 1, none⟩ = some y0) (h2 : w.cell? ⟨b, 2, none⟩ = some z0) (x y z : Value) :
    (((w.setCell ⟨b, 0, none⟩ x).setCell ⟨b, 1, none⟩ y).setCell ⟨b, 2, none⟩ z).cell? ⟨b, 0, none⟩ = some x ∧ (((w.setCell ⟨b, 0, none⟩ x).setCell ⟨b, 1, none⟩ y).setCell ⟨b, 2, none⟩ z).cell? ⟨b, 1, none⟩ = some y ∧ (((w.setCell ⟨b, 0, none⟩ x).setCell ⟨b, 1, none⟩ y).setCell ⟨b, 2, none⟩ z).cell? ⟨b, 2, none⟩ = some z := by
  have n01 : (⟨b, 0, none⟩ : Addr) ≠ ⟨b, 1, none⟩ := by intro e; injection e with _ e; cases e
  have n02 : (⟨b, 0, none⟩ : Addr) ≠ ⟨b, 2, none⟩ := by intro e; injection e with _ e; cases e
  have n12 : (⟨b, 1, none⟩ : Addr) ≠ ⟨b, 2, none⟩ := by intro e; injection e with _ e; cases e
  have a0 : (w.setCell ⟨b, 0, none⟩ x).cell? ⟨b, 0, none⟩ = some x := World.cell?_setCell_same _ _ _ h0
  have a1 : (w.setCell ⟨b, 0, none⟩ x).cell? ⟨b, 1, none⟩ = some y0 := (World.cell?_setCell_other _ _ _ _ n01).trans h1
  have a2 : (w.setCell ⟨b, 0, none⟩ x).cell? ⟨b, 2, none⟩ = some z0 := (World.cell?_setCell_other _ _ _ _ n02).trans h2
  have b1 : ((w.setCell ⟨b, 0, none⟩ x).setCell ⟨b, 1, none⟩ y).cell? ⟨b, 1, none⟩ = some y := World.cell?_setCell_same _ _ _ a1
  have b0 : ((w.setCell ⟨b, 0, none⟩ x).setCell ⟨b, 1, none⟩ y).cell? ⟨b, 0, none⟩ = some x := (World.cell?_setCell_other _ _ _ _ (Ne.symm n01)).trans a0
  have b2 : ((w.setCell ⟨b, 0, none⟩ x).setCell ⟨b, 1, none⟩ y).cell? ⟨b, 2, none⟩ = some z0 := (World.cell?_setCell_other _ _ _ _ n12).trans a2
  exact ⟨(World.cell?_setCell_other _ _ _ _ (Ne.symm n02)).trans b0, (World.cell?_setCell_other _ _ _ _ (Ne.symm n12)).trans b1, World.cell?_setCell_same _ _ _ b2⟩
theorem Res.put {w w1 : World} (h : Res w w1) (x y z : Value) : ((((w1.setCell ⟨w.heap.size, 0, none⟩ x).setCell ⟨w.heap.size, 1, none⟩ y).setCell ⟨w.heap.size, 2, none⟩ z).cell? ⟨w.heap.size, 0, none⟩ = some x ∧ (((w1.setCell ⟨w.heap.size, 0, none⟩ x).setCell ⟨w.heap.size, 1, none⟩ y).setCell ⟨w.heap.size, 2, none⟩ z).cell? ⟨w.heap.size, 1, none⟩ = some y ∧ (((w1.setCell ⟨w.heap.size, 0, none⟩ x).setCell ⟨w.heap.size, 1, none⟩ y).setCell ⟨w.heap.size, 2, none⟩ z).cell? ⟨w.heap.size, 2, none⟩ = some z) ∧
    Below w.heap.size w (((w1.setCell ⟨w.heap.size, 0, none⟩ x).setCell ⟨w.heap.size, 1, none⟩ y).setCell ⟨w.heap.size, 2, none⟩ z) :=
  ⟨res_put h.c0 h.c1 h.c2 x y z, ((h.below.setCell (Nat.le_refl _) x).setCell (Nat.le_refl _) y).setCell (Nat.le_refl _) z⟩

set_option maxRecDepth 100000 in
set_option maxHeartbeats 2000000 in
theorem named2_any (k : UInt8) (p : Option Addr) (T : List Tok) (n c : Nat) (m : Int) (w : World) (hT : T.length = n) (hn : n ≤ 100000) (hA : TokW w p T) (hx : ∀ q ∈ T, q.text.length ≤ 2000) (hm : w.cell? ⟨2, 0, none⟩ = some (.int .i64 m)) :
    Calls Tryd.prog 42 #[.int .u8 (k.toNat : Nat), .slice p n c] w (CmdOut (namedC k T) w) := by
  have HW0 := Lib.hid (World.block_lt_of_cell? w ⟨2, 0, none⟩ hm)
  have e : namedC k T = (⟨k, (takeB T).1, []⟩, decide (0 < (takeB T).2) && decide ((takeB T).2 = n)) := by unfold namedC; rw [hT]; congr 2
  rw [e]
  obtain ⟨XT, hXT⟩ : ∃ XT : ByteArray, XT = ⟨(takeB T).1.toArray⟩ := ⟨_, rfl⟩
  obtain ⟨j, hj⟩ : ∃ j : Nat, j = (takeB T).2 := ⟨_, rfl⟩
  unfold CmdOut Cmd.val
  have HT := Lib.hid (fun (W : World) (h : Res w W) => (show Calls Tryd.prog 71 #[.slice p n c] W fun e w' => e = .returned (.tuple #[.string XT, .int .i64 j]) ∧ Below W.heap.size W w' from by
    have := takew_any p T n c m W hT hn (hA.step ((Below.refl _ w).step h.below (Nat.le_refl _))) hx ((h.below.cell (p := ⟨2, 0, none⟩) HW0.out).trans hm)
    unfold Took at this
    rw [← hXT, ← hj] at this; exact this))
  simp only [← hXT, ← hj]
  clear e hT hA hx hm hXT hj
  by_cases h1 : 0 < j
  · have h1' : (0 : Int) < j := by omega
    by_cases h2 : j = n
    · subst h2
      rw [decide_eq_true h1]
      go_enter Tryd.func42, Tryd.ntmps42
      go_wp2_with fail
      refine (HT.out _ (Res.start w)).mono ?_; rintro e w1 ⟨rfl, hb1⟩
      have HR1 := Lib.hid ((Res.start w).step hb1)
      clear hb1
      have c0 := HR1.out.c0
      have c1 := HR1.out.c1
      have c2 := HR1.out.c2
      have f0 := HR1.out.f0
      have f1 := HR1.out.f1
      have f2 := HR1.out.f2
      go_wp2_with fail
      obtain ⟨⟨k0, k1, k2⟩, hbb⟩ := HR1.out.put (.int .u8 (k.toNat : Nat)) (.string XT) (.string { data := #[] })
      simp [bodyPost, results, Tryd.results42, go_sem, k0, k1, k2]
      exact hbb
    · have h2' : ((j : Int) == n) = false := by simp; omega
      rw [decide_eq_true h1, decide_eq_false h2]
      clear h2
      go_enter Tryd.func42, Tryd.ntmps42
      go_wp2_with fail
      refine (HT.out _ (Res.start w)).mono ?_; rintro e w1 ⟨rfl, hb1⟩
      have HR1 := Lib.hid ((Res.start w).step hb1)
      clear hb1
      have c0 := HR1.out.c0
      have c1 := HR1.out.c1
      have c2 := HR1.out.c2
      have f0 := HR1.out.f0
      have f1 := HR1.out.f1
      have f2 := HR1.out.f2
      go_wp2_with fail
      obtain ⟨⟨k0, k1, k2⟩, hbb⟩ := HR1.out.put (.int .u8 (k.toNat : Nat)) (.string XT) (.string { data := #[] })
      simp [bodyPost, results, Tryd.results42, go_sem, k0, k1, k2]
      exact hbb
  · obtain rfl : j = 0 := by omega
    rw [decide_eq_false h1]
    go_enter Tryd.func42, Tryd.ntmps42
    go_wp2_with fail
    refine (HT.out _ (Res.start w)).mono ?_; rintro e w1 ⟨rfl, hb1⟩
    have HR1 := Lib.hid ((Res.start w).step hb1)
    clear hb1
    have c0 := HR1.out.c0
    have c1 := HR1.out.c1
    have c2 := HR1.out.c2
    have f0 := HR1.out.f0
    have f1 := HR1.out.f1
    have f2 := HR1.out.f2
    go_wp2_with fail
    obtain ⟨⟨k0, k1, k2⟩, hbb⟩ := HR1.out.put (.int .u8 (k.toNat : Nat)) (.string XT) (.string { data := #[] })
    simp [bodyPost, results, Tryd.results42, go_sem, k0, k1, k2]
    exact hbb
end Go.Proofs.YtgopajddloeclaaDoor

namespace Go.Proofs.YtgopajddloeclaaDoor
open Go.RowKit Go.Lib Go.WideShapes

set_option maxRecDepth 100000 in
set_option maxHeartbeats 2000000 in
theorem point_any (k : UInt8) (p : Option Addr) (T : List Tok) (n c : Nat) (w : World) (hT : T.length = n) (hA : TokW w p T) :
    Calls Tryd.prog 45 #[.int .u8 (k.toNat : Nat), .slice p n c] w (CmdOut (pointC k T) w) := by
  unfold CmdOut
  have HS := Lib.hid (Res.start w)
  by_cases h1 : n = 1
  · subst h1
    match T, hT with
    | [t], _ =>
      obtain ⟨g, off, rfl, hg, hc⟩ := hA.first
      obtain ⟨_, a0, a1, alo, ahi, a2, a3⟩ := hc.get (i := 0) rfl
      simp only [Nat.zero_mul, Nat.add_zero] at a0 a1 a2 a3
      have HI := Lib.hid (fun W => isname_any t.kind t.text alo ahi W)
      have e : pointC k [t] = if nm t then (⟨k, t.text, []⟩, true) else (noCmd, false) := rfl
      rw [e]
      have b0 := (HS.out.below.cell (p := ⟨g, off, none⟩) hg).trans a0
      have b1 := (HS.out.below.cell (p := ⟨g, off + 1, none⟩) hg).trans a1
      have b2 := (HS.out.below.cell (p := ⟨g, off + 2, none⟩) hg).trans a2
      have b3 := (HS.out.below.cell (p := ⟨g, off + 3, none⟩) hg).trans a3
      have HA1 := Lib.hid a1
      clear e hA hc a0 a1 a2 a3
      cases h2 : nm t with
      | true =>
        have H2 := Lib.hid h2
        clear h2
        go_enter Tryd.func45, Tryd.ntmps45
        go_wp2_with fail
        refine (HI.out _).mono ?_; rintro e w1 ⟨rfl, hb1⟩
        rw [show (t.kind == 119 || t.kind == 113) = true from H2.out]
        have HR1 := Lib.hid (HS.out.step hb1)
        have a1 := (HR1.out.below.cell (p := ⟨g, off + 1, none⟩) hg).trans HA1.out
        clear hb1 b0 b1 b2 b3
        have c0 := HR1.out.c0
        have c1 := HR1.out.c1
        have c2 := HR1.out.c2
        have f0 := HR1.out.f0
        have f1 := HR1.out.f1
        have f2 := HR1.out.f2
        go_wp2_with fail
        obtain ⟨⟨k0, k1, k2⟩, hbb⟩ := HR1.out.put (.int .u8 (k.toNat : Nat)) (.string ⟨t.text.toArray⟩) (.string { data := #[] })
        simp [bodyPost, results, Tryd.results45, go_sem, k0, k1, k2]
        exact ⟨rfl, hbb⟩
      | false =>
        have H2 := Lib.hid h2
        clear h2
        go_enter Tryd.func45, Tryd.ntmps45
        go_wp2_with fail
        refine (HI.out _).mono ?_; rintro e w1 ⟨rfl, hb1⟩
        rw [show (t.kind == 119 || t.kind == 113) = false from H2.out]
        have HR1 := Lib.hid (HS.out.step hb1)
        clear hb1 b0 b1 b2 b3
        have c0 := HR1.out.c0
        have c1 := HR1.out.c1
        have c2 := HR1.out.c2
        have f0 := HR1.out.f0
        have f1 := HR1.out.f1
        have f2 := HR1.out.f2
        go_wp2_with fail
        obtain ⟨⟨k0, k1, k2⟩, hbb⟩ := HR1.out.put (.int .u8 0) (.string { data := #[] }) (.string { data := #[] })
        simp [bodyPost, results, Tryd.results45, go_sem, k0, k1, k2]
        exact ⟨rfl, hbb⟩
  · have hb : ((n : Int) == 1) = false := by simp; omega
    have hb2 : ((n : Int) != 1) = true := by simp; omega
    have e : pointC k T = (noCmd, false) := by
      match T, hT with
      | [], _ => rfl
      | [t], hT => exact absurd hT.symm h1
      | t :: u :: r, _ => rfl
    rw [e]
    clear h1 e hA hT
    go_enter Tryd.func45, Tryd.ntmps45
    go_wp2_with fail
    simp [bodyPost, results, Tryd.results45, go_sem]
    exact ⟨rfl, HS.out.below⟩

set_option maxRecDepth 100000 in
set_option maxHeartbeats 4000000 in
theorem roll_any (p : Option Addr) (T : List Tok) (n c : Nat) (w : World) (hT : T.length = n) (hn : n ≤ 100000) (hc : n ≤ c) (hc9 : c ≤ 9223372036854775807) (hA : TokW w p T) :
    Calls Tryd.prog 44 #[.slice p n c] w (CmdOut (rollC T) w) := by
  have HS := Lib.hid (Res.start w)
  have HA0 := Lib.hid (hA.step HS.out.below)
  have HB := Lib.hid (begins_below p T n c { data := #[116, 111] } _ hT hn HA0.out)
  have HT := Lib.hid hT
  have e : rollC T = if beginsW T (bytes { data := #[116, 111] }) then pointC 116 (saveW (T.drop 1)) else (⟨107, [], []⟩, T.length == 0) := rfl
  rw [e]
  unfold CmdOut
  clear e hA hT
  cases h1 : beginsW T (bytes { data := #[116, 111] }) with
  | false =>
    have H1 := Lib.hid h1
    clear h1
    rw [if_neg (by simp), HT.out]
    by_cases h0 : n = 0
    · have hb : ((n : Int) == 0) = true := by simp; omega
      rw [show (n == 0) = true by simpa using h0]
      clear h0
      go_enter Tryd.func44, Tryd.ntmps44
      go_wp2_with fail
      refine HB.out.mono ?_; rintro e w1 ⟨rfl, hb1⟩
      rw [H1.out]
      have HR1 := Lib.hid (HS.out.step hb1)
      clear hb1
      have c0 := HR1.out.c0
      have c1 := HR1.out.c1
      have c2 := HR1.out.c2
      have f0 := HR1.out.f0
      have f1 := HR1.out.f1
      have f2 := HR1.out.f2
      go_wp2_with fail
      obtain ⟨⟨k0, k1, k2⟩, hbb⟩ := HR1.out.put (.int .u8 107) (.string { data := #[] }) (.string { data := #[] })
      simp [bodyPost, results, Tryd.results44, go_sem, k0, k1, k2]
      exact ⟨rfl, hbb⟩
    · have hb : ((n : Int) == 0) = false := by simp; omega
      rw [show (n == 0) = false by simpa using h0]
      clear h0
      go_enter Tryd.func44, Tryd.ntmps44
      go_wp2_with fail
      refine HB.out.mono ?_; rintro e w1 ⟨rfl, hb1⟩
      rw [H1.out]
      have HR1 := Lib.hid (HS.out.step hb1)
      clear hb1
      have c0 := HR1.out.c0
      have c1 := HR1.out.c1
      have c2 := HR1.out.c2
      have f0 := HR1.out.f0
      have f1 := HR1.out.f1
      have f2 := HR1.out.f2
      go_wp2_with fail
      obtain ⟨⟨k0, k1, k2⟩, hbb⟩ := HR1.out.put (.int .u8 107) (.string { data := #[] }) (.string { data := #[] })
      simp [bodyPost, results, Tryd.results44, go_sem, k0, k1, k2]
      exact ⟨rfl, hbb⟩
  | true =>
    obtain ⟨t, r, rfl⟩ := begins_some h1
    obtain ⟨g, off, rfl, hg, hA⟩ := HA0.out.first
    have HBH := Lib.hid (behind_row hA HT.out hc)
    have hn1 : (1 : Int) ≤ n := by rw [← HT.out, List.length_cons]; omega
    have hn2 : (n : Int) ≤ c := by omega
    have H1 := Lib.hid h1
    rw [if_pos rfl, show (t :: r).drop 1 = r from rfl]
    clear h1 hA
    have HSV := Lib.hid (fun (q : Option Addr) (n' c' : Nat) W (h1 : r.length = n') (h2 : n' ≤ c') (h3 : n' ≤ 100000) (h4 : c' ≤ 9223372036854775807) (h5 : TokW W q r) => save_any q r n' c' W h1 h3 h2 h4 h5)
    have HPT := Lib.hid (fun (q : Option Addr) (n' c' : Nat) W (h1 : (saveW r).length = n') (h3 : TokW W q (saveW r)) => point_any 116 q (saveW r) n' c' W h1 h3)
    unfold CmdOut at HPT
    generalize pointC 116 (saveW r) = q at HPT ⊢
    obtain ⟨⟨ck, cn, cv⟩, cb⟩ := q
    unfold Cmd.val at HPT ⊢
    simp only at HPT ⊢
    by_cases hc1 : c = 1
    · subst hc1
      obtain rfl : n = 1 := by omega
      obtain rfl : r = [] := List.length_eq_zero_iff.1 HBH.out.2.1
      go_enter Tryd.func44, Tryd.ntmps44
      go_wp2_with fail
      refine HB.out.mono ?_; rintro e w1 ⟨rfl, hb1⟩
      rw [H1.out]
      have HR1 := Lib.hid (HS.out.step hb1)
      clear hb1
      go_wp2_with fail
      refine (HSV.out _ 0 _ w1 rfl (Nat.zero_le _) (by omega) (by omega) (.inl rfl)).mono ?_; rintro e w2 ⟨hb2, p', n', c', rfl, h1, h2, _, h3⟩
      have HR2 := Lib.hid (HR1.out.step hb2)
      have HP2 := Lib.hid (HPT.out p' n' c' w2 h1 h3)
      clear hb2 h1 h2 h3
      go_wp2_with fail
      refine HP2.out.mono ?_; rintro e w3 ⟨rfl, hb3⟩
      have HR3 := Lib.hid (HR2.out.step hb3)
      clear hb3
      have c0 := HR3.out.c0
      have c1 := HR3.out.c1
      have c2 := HR3.out.c2
      have f0 := HR3.out.f0
      have f1 := HR3.out.f1
      have f2 := HR3.out.f2
      go_wp2_with fail
      obtain ⟨⟨k0, k1, k2⟩, hbb⟩ := HR3.out.put (.int .u8 (ck.toNat : Nat)) (.string ⟨cn.toArray⟩) (.string ⟨cv.toArray⟩)
      simp [bodyPost, results, Tryd.results44, go_sem, k0, k1, k2]
      exact hbb
    · have hc2 : (2 : Int) ≤ c := by omega
      go_enter Tryd.func44, Tryd.ntmps44
      go_wp2_with fail
      refine HB.out.mono ?_; rintro e w1 ⟨rfl, hb1⟩
      rw [H1.out]
      have HR1 := Lib.hid (HS.out.step hb1)
      have HBQ := Lib.hid (HBH.out.1.step hb1)
      clear hb1
      go_wp2_with fail
      refine (HSV.out _ (n - 1) (c - 1) w1 HBH.out.2.1 HBH.out.2.2 (by omega) (by omega) HBQ.out).mono ?_; rintro e w2 ⟨hb2, p', n', c', rfl, h1, h2, _, h3⟩
      have HR2 := Lib.hid (HR1.out.step hb2)
      have HP2 := Lib.hid (HPT.out p' n' c' w2 h1 h3)
      clear hb2 h1 h2 h3
      go_wp2_with fail
      refine HP2.out.mono ?_; rintro e w3 ⟨rfl, hb3⟩
      have HR3 := Lib.hid (HR2.out.step hb3)
      clear hb3
      have c0 := HR3.out.c0
      have c1 := HR3.out.c1
      have c2 := HR3.out.c2
      have f0 := HR3.out.f0
      have f1 := HR3.out.f1
      have f2 := HR3.out.f2
      go_wp2_with fail
      obtain ⟨⟨k0, k1, k2⟩, hbb⟩ := HR3.out.put (.int .u8 (ck.toNat : Nat)) (.string ⟨cn.toArray⟩) (.string ⟨cv.toArray⟩)
      simp [bodyPost, results, Tryd.results44, go_sem, k0, k1, k2]
      exact hbb
end Go.Proofs.YtgopajddloeclaaDoor

namespace Go.Proofs.YtgopajddloeclaaDoor
open Go.RowKit Go.Lib Go.WideShapes

set_option maxRecDepth 100000 in
set_option maxHeartbeats 2000000 in
theorem assigns_any (t : Tok) (lo hi : Int) (w : World) :
    Calls Tryd.prog 72 #[.agg #[.int .u8 (t.kind.toNat : Nat), .string ⟨t.text.toArray⟩, .int .i64 lo, .int .i64 hi]] w fun e w' => e = .returned (.bool (assignsB t)) ∧ Below w.heap.size w w' := by
  have e : assignsB t = ((decide (t.kind.toNat = 119) && t.text == w_to) || (decide (t.kind.toNat = 111) && t.text == [61])) := by unfold assignsB; rw [kind_eq, kind_eq]; rfl
  rw [e]
  have hx : (⟨t.text.toArray⟩ : ByteArray).toList = t.text := str_list _
  clear e
  generalize (⟨t.text.toArray⟩ : ByteArray) = XT at hx ⊢
  generalize t.kind.toNat = kk
  by_cases h1 : kk = 119
  · have h2 : ¬ kk = 111 := by omega
    have hb : ((kk : Int) == 119) = true := by simp; omega
    have hb1 : ((kk : Int) == 111) = false := by simp; omega
    rw [decide_eq_true h1, decide_eq_false h2]
    clear h1 h2
    cases h3 : (t.text == w_to) with
    | true =>
      have hb2 : (XT.toList == [116, 111]) = true := by rw [hx]; exact h3
      clear hx h3
      go_enter Tryd.func72, Tryd.ntmps72
      go_wp2_with fail
      go_ret
      exact ⟨rfl, (Below.refl _ _).alloc (Nat.le_refl _) _⟩
    | false =>
      have hb2 : (XT.toList == [116, 111]) = false := by rw [hx]; exact h3
      clear hx h3
      go_enter Tryd.func72, Tryd.ntmps72
      go_wp2_with fail
      go_ret
      exact ⟨rfl, (Below.refl _ _).alloc (Nat.le_refl _) _⟩
  · have hb : ((kk : Int) == 119) = false := by simp; omega
    rw [decide_eq_false h1]
    by_cases h2 : kk = 111
    · have hb1 : ((kk : Int) == 111) = true := by simp; omega
      rw [decide_eq_true h2]
      clear h1 h2
      cases h3 : (t.text == [61]) with
      | true =>
        have hb2 : (XT.toList == [61]) = true := by rw [hx]; exact h3
        clear hx h3
        go_enter Tryd.func72, Tryd.ntmps72
        go_wp2_with fail
        go_ret
        exact ⟨rfl, (Below.refl _ _).alloc (Nat.le_refl _) _⟩
      | false =>
        have hb2 : (XT.toList == [61]) = false := by rw [hx]; exact h3
        clear hx h3
        go_enter Tryd.func72, Tryd.ntmps72
        go_wp2_with fail
        go_ret
        exact ⟨rfl, (Below.refl _ _).alloc (Nat.le_refl _) _⟩
    · have hb1 : ((kk : Int) == 111) = false := by simp; omega
      rw [decide_eq_false h2]
      clear h1 h2 hx
      go_enter Tryd.func72, Tryd.ntmps72
      go_wp2_with fail
      go_ret
      exact ⟨rfl, (Below.refl _ _).alloc (Nat.le_refl _) _⟩
end Go.Proofs.YtgopajddloeclaaDoor
