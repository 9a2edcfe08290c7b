/- Does a statement begin with these words? -/
import Derived.Test.YtckimeikiakfcaaDoorParts
namespace Go.Proofs.YtckimeikiakfcaaDoor
open Go.RowKit Go.Lib Go.WideShapes

def begins : List Tok → List Bs → Bool
  | _, [] => true
  | [], _ :: _ => false
  | t :: l, x :: r => (t.kind == 119 && t.text == x) && begins l r

theorem begins_short : ∀ (W : List Bs) (l : List Tok), l.length < W.length → begins l W = false := by
  intro W
  induction W with
  | nil => intro l h; cases h
  | cons x r ih =>
    intro l h
    cases l with
    | nil => rfl
    | cons t l => rw [begins, ih l (by simpa using h), Bool.and_false]

def WordsAt (w : World) (u : Option Addr) (W : List Bs) : Prop := ∀ (i : Nat) (x : Bs), W[i]? = some x → ∃ g, u = some ⟨g, 0, none⟩ ∧ g < w.heap.size ∧ w.cell? ⟨g, i, none⟩ = some (.string ⟨x.toArray⟩)
theorem WordsAt.step {w w' : World} {u : Option Addr} {W : List Bs} (h : WordsAt w u W) (hb : Below w.heap.size w w') : WordsAt w' u W := by
  intro i x hx
  obtain ⟨g, rfl, hg, h0⟩ := h i x hx
  exact ⟨g, rfl, Nat.lt_of_lt_of_le hg hb.size, (hb.cell hg).trans h0⟩

set_option maxHeartbeats 2000000 in
theorem first_any (p u : Option Addr) (l : List Tok) (W : List Bs) (n k c d : Nat) (lo hi : Int) (w : World) (hl : l.length = n) (hW : W.length = k) (hA : TokAt w p l) (hU : WordsAt w u W) (hn : n ≤ 9223372036854775807) :
    Calls Tryd.prog 15 #[.agg #[.slice p n c, .int .i64 lo, .int .i64 hi], .slice u k d] w fun e w' => e = .returned (.bool (begins l W)) ∧ Below w.heap.size w w' := by
  have HL := Lib.hid hl; have HW := Lib.hid hW; have HA := Lib.hid hA; have HU := Lib.hid hU
  obtain ⟨R, hR⟩ : ∃ R, R = begins l W := ⟨_, rfl⟩
  rw [← hR]
  by_cases hnk : n < k
  · have hnk' : (n : Int) < k := by omega
    have HR := Lib.hid (show R = false by rw [hR]; exact begins_short W l (by omega))
    clear hl hW hA hU hR
    go_enter Tryd.func15, Tryd.ntmps15
    go_wp2_with fail
    go_ret
    rw [HR.out]
    exact ⟨rfl, (Below.refl _ w).alloc (Nat.le_refl _) _⟩
  · have hnk' : (k : Int) ≤ n := by omega
    have HR := Lib.hid hR
    clear hl hW hA hU hR
    go_enter Tryd.func15, Tryd.ntmps15
    go_wp2_with fail
    have HB0 := Lib.hid ((Below.refl w.heap.size w).alloc (Nat.le_refl _) (Obj.cells #[.slice p n c, .int .i64 lo, .int .i64 hi] 35))
    have hv0 : (w.alloc (Obj.cells #[.slice p n c, .int .i64 lo, .int .i64 hi] 35)).cell? ⟨w.heap.size, 0, none⟩ = some (.slice p n c) := World.cell?_alloc_new _ _ _ _
    have hgz : w.heap.size < (w.alloc (Obj.cells #[.slice p n c, .int .i64 lo, .int .i64 hi] 35)).heap.size := by simp
    generalize w.alloc (Obj.cells #[.slice p n c, .int .i64 lo, .int .i64 hi] 35) = w1 at HB0 hv0 hgz ⊢
    have HV := Lib.hid hv0
    clear hv0
    go_loopg [16] k (fun g v wr => ∃ i : Nat, v = .int .i64 i ∧ i ≤ k ∧ g = k - i ∧ Below w1.heap.size w1 wr ∧ begins (l.drop i) (W.drop i) = R)
    case atStart => exact ⟨0, rfl, Nat.zero_le _, rfl, Below.refl _ _, HR.out.symm⟩
    case round =>
      obtain ⟨i, rfl, hi, hg, hB, hr⟩ := hrel
      have HB := Lib.hid hB; have HG := Lib.hid hg; have HRR := Lib.hid hr
      clear hB hg hr
      by_cases hlt : i < k
      · have hlt' : (i : Int) < k := by omega
        have hin : (i : Int) < n := by omega
        obtain ⟨q, hq⟩ : ∃ q, l[i]? = some q := ⟨_, List.getElem?_eq_getElem (by rw [HL.out]; omega)⟩
        obtain ⟨x, hx⟩ : ∃ x, W[i]? = some x := ⟨_, List.getElem?_eq_getElem (by rw [HW.out]; exact hlt)⟩
        have HQ := Lib.hid (show begins (l.drop i) (W.drop i) = ((q.kind == 119 && q.text == x) && begins (l.drop (i + 1)) (W.drop (i + 1))) by
          rw [List.drop_eq_getElem_cons (by rw [HL.out]; omega), List.drop_eq_getElem_cons (l := W) (by rw [HW.out]; exact hlt), begins]
          rw [List.getElem?_eq_getElem (by rw [HL.out]; omega)] at hq
          rw [List.getElem?_eq_getElem (by rw [HW.out]; exact hlt)] at hx
          cases hq; cases hx; rfl)
        obtain ⟨g1, rfl, hg1, x0, x1, x2, x3⟩ := (HA.out.step HB0.out) i q hq
        obtain ⟨g2, rfl, hg2, y0⟩ := (HU.out.step HB0.out) i x hx
        have x0 := (HB.out.cell hg1).trans x0
        have x1 := (HB.out.cell hg1).trans x1
        have x2 := (HB.out.cell hg1).trans x2
        have x3 := (HB.out.cell hg1).trans x3
        have y0 := (HB.out.cell hg2).trans y0
        have v0 := (HB.out.cell hgz).trans HV.out
        clear hq hx
        obtain ⟨kd, tx, a, b⟩ := q
        simp only at x0 x1 x2 x3
        have HF := Lib.hid (fun (e : (tx == x) = false) => show R = false by rw [← HRR.out, HQ.out]; show ((kd == 119 && tx == x) && _) = false; rw [e, Bool.and_false, Bool.false_and])
        have HK := Lib.hid (fun (e : ¬ (((kd.toNat : Nat) : Int) = 119)) => show R = false by
          rw [← HRR.out, HQ.out]
          show ((kd == 119 && tx == x) && _) = false
          rw [show (kd == 119) = false by rw [← Bool.not_eq_true]; intro h; exact e (by rw [show kd = 119 from by simpa using h]; rfl), Bool.false_and, Bool.false_and])
        have HT := Lib.hid (fun (e1 : ((kd.toNat : Nat) : Int) = 119) (e2 : (tx == x) = true) => show begins (l.drop (i + 1)) (W.drop (i + 1)) = R by
          rw [← HRR.out, HQ.out]
          show _ = ((kd == 119 && tx == x) && _)
          rw [e2, show kd = 119 from UInt8.toNat_inj.1 (show kd.toNat = (119 : UInt8).toNat from (by omega : kd.toNat = 119))]; rfl)
        clear HRR HQ
        have HB7 := Lib.hid (HB.out.alloc HB.out.size (Obj.cells #[.int .u8 (kd.toNat : Nat), .string ⟨tx.toArray⟩, .int .i64 a, .int .i64 b] 28))
        go_wp2_with fail
        · have e1 : ((kd.toNat : Nat) : Int) = 119 := by assumption
          have e2 : (!(tx == x)) = true := by assumption
          go_ret
          rw [HF.out (by simpa using e2)]
          rw [e1] at HB7
          exact ⟨rfl, HB0.out.step HB7.out HB0.out.size⟩
        · have e1 : ((kd.toNat : Nat) : Int) = 119 := by assumption
          have e2 : (!(tx == x)) = false := by assumption
          rw [e1] at HB7
          go_roundg (k - (i + 1))
          case measure => have := HG.out; omega
          case rel => exact ⟨i + 1, by go_num, by omega, rfl, HB7.out, HT.out e1 (by simpa using e2)⟩
        · have e1 : ¬ ((kd.toNat : Nat) : Int) = 119 := by assumption
          go_ret
          rw [HK.out e1]
          exact ⟨rfl, HB0.out.step HB7.out HB0.out.size⟩
      · have hlt' : (k : Int) ≤ i := by omega
        have HRT := Lib.hid (show R = true by rw [← HRR.out, show W.drop i = [] from List.drop_eq_nil_of_le (by rw [HW.out]; omega)]; cases l.drop i <;> rfl)
        go_wp2_with fail
        go_ret
        rw [HRT.out]
        exact ⟨rfl, HB0.out.step HB.out HB0.out.size⟩
end Go.Proofs.YtckimeikiakfcaaDoor
