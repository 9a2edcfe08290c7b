/- Contracts and mathematics: Token. -/
import Derived.Test.YtgopajddloeclaaDoorZ8
namespace Go.Proofs.YtgopajddloeclaaDoor
open Go.RowKit Go.Lib Go.WideShapes

/-- A token is told, or it panics. -/
def OptK (p : Nat) (s : ByteArray) (w : World) (R : Option (UInt8 × Bs × Bs)) (e : Ending) (w' : World) : Prop := (∀ k t r, R = some (k, t, r) → Moved p s w (s.size - r.length) (.tuple #[.int .u8 (k.toNat : Nat), .string ⟨t.toArray⟩]) e w') ∧ (R = none → Stuck p s w e w')

theorem OptK.some {p : Nat} {s : ByteArray} {w w' : World} {R : Option (UInt8 × Bs × Bs)} {k : UInt8} {t r : Bs} {e : Ending} (hR : R = some (k, t, r)) (h : Moved p s w (s.size - r.length) (.tuple #[.int .u8 (k.toNat : Nat), .string ⟨t.toArray⟩]) e w') : OptK p s w R e w' := ⟨fun _ _ _ hr => (by rw [hR] at hr; cases hr; exact h), fun hr => (by rw [hR] at hr; cases hr)⟩
theorem OptK.none {p : Nat} {s : ByteArray} {w w' : World} {R : Option (UInt8 × Bs × Bs)} {e : Ending} (hR : R = .none) (h : Stuck p s w e w') : OptK p s w R e w' := ⟨fun _ _ _ hr => (by rw [hR] at hr; cases hr), fun _ => h⟩

theorem Stuck.later {p : Nat} {s : ByteArray} {w wr w' : World} {e : Ending} (h : Stuck p s wr e w') (hg : w.grownBy wr (some p)) : Stuck p s w e w' := ⟨h.1, h.2.1, grow_trans hg h.2.2⟩

section
variable {s : ByteArray} {i : Nat} (hi : i < s.size)
include hi

theorem token_eq : token ((bytes s).drop i) =
    (if (pb s i = 101 ∨ pb s i = 69) ∧ pb s (i + 1) = 39 then (qt 39 true ((bytes s).drop (i + 2))).map fun p => (115, p.1, p.2)
    else if bwN (pb s i) = true then some (119, (((bytes s).drop i).takeWhile inw).map low, ((bytes s).drop i).dropWhile inw)
    else if pb s i = 34 then (qt 34 false ((bytes s).drop (i + 1))).bind fun p => if p.1 = [] then none else some (113, p.1, p.2)
    else if pb s i = 39 then (qt 39 false ((bytes s).drop (i + 1))).map fun p => (115, p.1, p.2)
    else if dgN (pb s i) = true ∨ pb s i = 46 ∧ dgN (pb s (i + 1)) = true then some (110, ((bytes s).drop i).take (nl ((bytes s).drop i)), ((bytes s).drop i).drop (nl ((bytes s).drop i)))
    else match tagOf ((bytes s).drop i) with
      | some t => (find t (((bytes s).drop i).drop t.length)).map fun n => (115, (((bytes s).drop i).drop t.length).take n, ((bytes s).drop i).drop (t.length + n + t.length))
      | none => some (111, [UInt8.ofNat (pb s i)], (bytes s).drop (i + 1)) : Option (UInt8 × Bs × Bs)) := by
  have e1 : (UInt8.ofNat (pb s i) = 101 ∨ UInt8.ofNat (pb s i) = 69) ↔ (pb s i = 101 ∨ pb s i = 69) := or_congr (ofNat_eq s i 101 (by decide)) (ofNat_eq s i 69 (by decide))
  have e2 : ((bytes s).drop (i + 1)).head? = some 39 ↔ pb s (i + 1) = 39 := head_some 39 (by decide)
  have e3 : UInt8.ofNat (pb s i) = 34 ↔ pb s i = 34 := ofNat_eq s i 34 (by decide)
  have e4 : UInt8.ofNat (pb s i) = 39 ↔ pb s i = 39 := ofNat_eq s i 39 (by decide)
  have e5 : UInt8.ofNat (pb s i) = 46 ↔ pb s i = 46 := ofNat_eq s i 46 (by decide)
  rw [drop_cons hi, token]
  simp only [e1, e2, e3, e4, e5, List.tail_drop, head_pb]
  rfl
end

theorem take_while (f : UInt8 → Bool) : ∀ l : Bs, l.takeWhile f = l.take (l.length - (l.dropWhile f).length) := by
  intro l
  have h := List.takeWhile_append_dropWhile (p := f) (l := l)
  have hl := congrArg List.length h
  rw [List.length_append] at hl
  conv => rhs; rw [← h]
  rw [List.take_left' (by rw [h]; omega)]

theorem nl_le (l : Bs) : nl l ≤ l.length := by
  suffices h : ∀ n (l : Bs), l.length ≤ n → nl l ≤ l.length from h _ l (Nat.le_refl _)
  intro n
  induction n with
  | zero =>
    intro l hl
    rw [List.length_eq_zero_iff.1 (by omega : l.length = 0)]; simp [nl]
  | succ n ih =>
    intro l hl
    match l with
    | [] => simp [nl]
    | a :: r =>
      rw [List.length_cons] at hl
      by_cases h : dg a = true ∨ a = 46
      · rw [nl_on h, List.length_cons]
        have := ih r (by omega); omega
      · rw [nl_else h, List.length_cons]
        have h1 := ih r (by omega)
        have h2 := ih r.tail (by rw [List.length_tail]; omega)
        rw [List.length_tail] at h2
        split
        · split
          · split
            · cases r with
              | nil => rename_i hd; exact absurd hd (by decide)
              | cons b r => simp at h1 h2 ⊢; omega
            · omega
          · split <;> omega
        · omega

set_option maxRecDepth 100000 in
set_option maxHeartbeats 4000000 in
theorem token_esc (p i : Nat) (s : ByteArray) (w : World) (h : Cur w p s i) (hi : i < s.size) (hs : s.size ≤ 2000)
    (ha : (pb s i = 101 ∨ pb s i = 69) ∧ pb s (i + 1) = 39) :
    Calls Tryd.prog 59 #[.pointer (some ⟨p, 0, none⟩)] w (OptK p s w (token ((bytes s).drop i))) := by
  have HT := Lib.hid (token_eq hi)
  rw [if_pos ha] at HT
  have hi1 : i + 1 < s.size := by
    by_cases h1 : i + 1 < s.size
    · exact h1
    · rw [pb_out s (i + 1) (by omega)] at ha; exact absurd ha.2 (by decide)
  have hx8 := pb_lt s i
  have HQ0 := Lib.hid (peek_at p i 0 s w w h (grow_refl _ _) hs (by omega))
  rw [Nat.add_zero] at HQ0
  have HQ1 := Lib.hid (fun (W : World) (h1 : Cur W p s i) (h2 : w.grownBy W (some p)) => peek_at p i 1 s w W h1 h2 hs (by omega))
  have HLL := Lib.hid (bytes_len s)
  obtain ⟨x, hx⟩ : ∃ x, x = pb s i := ⟨_, rfl⟩
  obtain ⟨y, hy⟩ : ∃ y, y = pb s (i + 1) := ⟨_, rfl⟩
  rw [← hx] at HQ0 hx8 ha
  simp only [← hy] at HQ1 ha
  have HX := Lib.hid hx; have HY := Lib.hid hy
  clear h hx hy
  have HTT := HT
  obtain ⟨QQ, hQQ⟩ : ∃ QQ, QQ = qt 39 true ((bytes s).drop (i + 2)) := ⟨_, rfl⟩
  rw [← hQQ] at HTT
  have HQQE := Lib.hid hQQ
  clear hQQ HT
  obtain ⟨ha1, ha2⟩ := ha
  have hz3 : ((y : Int) == 39) = true := by simp; omega
  have hcs : ((x : Int) == 101) = true ∨ ((x : Int) == 101) = false ∧ ((x : Int) == 69) = true := by
    rcases ha1 with h | h <;> subst h <;> simp
  clear ha1 ha2
  rcases hcs with hz1 | ⟨hz1, hz2⟩
  all_goals
    go_enter Tryd.func59, Tryd.ntmps59
    go_wp2_with fail
    refine HQ0.out.mono ?_; rintro e w1 ⟨rfl, hC1, hG1⟩
    have HC1 := Lib.hid hC1; have HG1 := Lib.hid hG1
    obtain ⟨c0, c1, f1⟩ := hC1.cell
    clear hC1 hG1 HQ0
    go_wp2_with fail
    refine (HQ1.out _ HC1.out HG1.out).mono ?_; rintro e w2 ⟨rfl, hC2, hG2⟩
    have HC2 := Lib.hid hC2; have HG2 := Lib.hid hG2
    clear c0 c1 f1
    obtain ⟨c0, c1, f1⟩ := hC2.cell
    clear hC2 hG2 HC1 HG1
    go_wp2_with fail
    have HGG := Lib.hid (cur_step (n := 0) (z := (i : Int) + 1) (j := i + 1) HC2.out HG2.out (by omega)).2
    have HCC := Lib.hid (cur_step (n := 0) (z := (i : Int) + 1) (j := i + 1) HC2.out HG2.out (by omega)).1
    have HQQ := Lib.hid (quoted_any 39 p (i + 1) true s _ HCC.out hi1 hs (by omega))
    rw [show (UInt8.ofNat 39) = 39 from rfl, show i + 1 + 1 = i + 2 by omega, ← HQQE.out] at HQQ
    refine HQQ.out.mono ?_; rintro e w9 ⟨hS, hN⟩
    cases hq : QQ with
    | none =>
      obtain ⟨rfl, hj, hG9⟩ := hN hq
      have HJ := Lib.hid hj; have HG9 := Lib.hid hG9
      have HR := Lib.hid (show token ((bytes s).drop i) = none by rw [HTT.out, hq]; rfl)
      clear hj hG9 hS hN hq
      go_wp2_with fail
      exact ⟨rfl, OptK.none HR.out (Stuck.later ⟨rfl, HJ.out, HG9.out⟩ HGG.out)⟩
    | some q =>
      obtain ⟨t, r⟩ := q
      obtain ⟨rfl, hC9, hG9⟩ := hS t r hq
      have HC9 := Lib.hid hC9; have HG9 := Lib.hid hG9
      have HR := Lib.hid (show token ((bytes s).drop i) = some (115, t, r) by rw [HTT.out, hq]; rfl)
      clear hC9 hG9 hS hN hq
      go_wp2_with fail
      go_ret2
      exact OptK.some HR.out ⟨rfl, HC9.out, grow_trans HGG.out HG9.out⟩
set_option maxRecDepth 100000 in
set_option maxHeartbeats 4000000 in
theorem token_word (p i : Nat) (s : ByteArray) (w : World) (h : Cur w p s i) (hi : i < s.size) (hs : s.size ≤ 2000)
    (ha : ¬ ((pb s i = 101 ∨ pb s i = 69) ∧ pb s (i + 1) = 39)) (hb : bwN (pb s i) = true) :
    Calls Tryd.prog 59 #[.pointer (some ⟨p, 0, none⟩)] w (OptK p s w (token ((bytes s).drop i))) := by
  have HT := Lib.hid (token_eq hi)
  rw [if_neg ha, if_pos hb] at HT
  have hx8 := pb_lt s i
  have HQ0 := Lib.hid (peek_at p i 0 s w w h (grow_refl _ _) hs (by omega))
  rw [Nat.add_zero] at HQ0
  have HQ1 := Lib.hid (fun (W : World) (h1 : Cur W p s i) (h2 : w.grownBy W (some p)) => peek_at p i 1 s w W h1 h2 hs (by omega))
  have HLL := Lib.hid (bytes_len s)
  obtain ⟨x, hx⟩ : ∃ x, x = pb s i := ⟨_, rfl⟩
  obtain ⟨y, hy⟩ : ∃ y, y = pb s (i + 1) := ⟨_, rfl⟩
  rw [← hx] at HQ0 hx8 ha hb
  simp only [← hy] at HQ1 ha
  have HX := Lib.hid hx; have HY := Lib.hid hy
  clear h hx hy
  have HB := Lib.hid hb
  have hcs : ((x : Int) == 101) = true ∧ ((y : Int) == 39) = false ∨ ((x : Int) == 101) = false ∧ ((x : Int) == 69) = true ∧ ((y : Int) == 39) = false ∨ ((x : Int) == 101) = false ∧ ((x : Int) == 69) = false := by
    by_cases h1 : x = 101
    · left; simp [h1]; omega
    · by_cases h2 : x = 69
      · right; left; simp [h2]; omega
      · right; right; simp; omega
  have hll := bytes_len s
  obtain ⟨R, hR⟩ : ∃ R, R = ((bytes s).drop i).dropWhile inw := ⟨_, rfl⟩
  have hRl : R.length ≤ s.size - i := by
    rw [hR, ← hll, ← List.length_drop]
    exact (List.dropWhile_suffix inw).length_le
  have hwb : bytes (s.extract i (s.size - R.length)) = ((bytes s).drop i).takeWhile inw := by
    rw [take_while, ← hR, List.length_drop, hll]
    show (s.extract i (s.size - R.length)).data.toList = _
    rw [Lib.extract_data, show s.size - R.length - i = s.size - i - R.length by omega]
  rw [← hwb, ← hR] at HT
  have HW := Lib.hid (fun (W : World) (h1 : Cur W p s i) => word_any p i s W h1 (by omega) hs)
  rw [← hR] at HW
  have hsz : (s.extract i (s.size - R.length)).size ≤ 2000 := by rw [ByteArray.size_extract]; omega
  obtain ⟨T, hT⟩ : ∃ T, T = s.extract i (s.size - R.length) := ⟨_, rfl⟩
  rw [← hT] at HT HW hsz
  clear ha hb hll hR hRl hwb hT
  rcases hcs with ⟨hz1, hz2⟩ | ⟨hz1, hz2, hz3⟩ | ⟨hz1, hz2⟩
  · go_enter Tryd.func59, Tryd.ntmps59
    go_wp2_with fail
    refine HQ0.out.mono ?_; rintro e w1 ⟨rfl, hC1, hG1⟩
    have HC1 := Lib.hid hC1; have HG1 := Lib.hid hG1
    obtain ⟨c0, c1, f1⟩ := hC1.cell
    clear hC1 hG1 HQ0
    go_wp2_with fail
    refine (HQ1.out _ HC1.out HG1.out).mono ?_; rintro e w2 ⟨rfl, hC2, hG2⟩
    have HC2 := Lib.hid hC2; have HG2 := Lib.hid hG2
    clear c0 c1 f1
    obtain ⟨c0, c1, f1⟩ := hC2.cell
    clear hC2 hG2 HC1 HG1
    go_wp2_with fail
    refine (begins_any x _ hx8).mono ?_; rintro e w' ⟨rfl, rfl⟩
    rw [HB.out]
    go_wp2_with fail
    refine (HW.out _ HC2.out).mono ?_; rintro e w5 ⟨rfl, hC5, hG5⟩
    have HC5 := Lib.hid hC5; have HG5 := Lib.hid (grow_trans HG2.out hG5)
    clear hC5 hG5 c0 c1 f1
    go_wp2_with fail
    refine (fold_any T _ hsz).mono ?_; rintro e w6 ⟨rfl, hb6⟩
    have HC6 := Lib.hid (HC5.out.below hb6); have HG6 := Lib.hid (grow_trans HG5.out (grow_below hb6 _))
    clear hb6
    go_wp2_with fail
    go_ret2
    exact OptK.some HT.out ⟨rfl, HC6.out, HG6.out⟩
  · go_enter Tryd.func59, Tryd.ntmps59
    go_wp2_with fail
    refine HQ0.out.mono ?_; rintro e w1 ⟨rfl, hC1, hG1⟩
    have HC1 := Lib.hid hC1; have HG1 := Lib.hid hG1
    obtain ⟨c0, c1, f1⟩ := hC1.cell
    clear hC1 hG1 HQ0
    go_wp2_with fail
    refine (HQ1.out _ HC1.out HG1.out).mono ?_; rintro e w2 ⟨rfl, hC2, hG2⟩
    have HC2 := Lib.hid hC2; have HG2 := Lib.hid hG2
    clear c0 c1 f1
    obtain ⟨c0, c1, f1⟩ := hC2.cell
    clear hC2 hG2 HC1 HG1
    go_wp2_with fail
    refine (begins_any x _ hx8).mono ?_; rintro e w' ⟨rfl, rfl⟩
    rw [HB.out]
    go_wp2_with fail
    refine (HW.out _ HC2.out).mono ?_; rintro e w5 ⟨rfl, hC5, hG5⟩
    have HC5 := Lib.hid hC5; have HG5 := Lib.hid (grow_trans HG2.out hG5)
    clear hC5 hG5 c0 c1 f1
    go_wp2_with fail
    refine (fold_any T _ hsz).mono ?_; rintro e w6 ⟨rfl, hb6⟩
    have HC6 := Lib.hid (HC5.out.below hb6); have HG6 := Lib.hid (grow_trans HG5.out (grow_below hb6 _))
    clear hb6
    go_wp2_with fail
    go_ret2
    exact OptK.some HT.out ⟨rfl, HC6.out, HG6.out⟩
  · go_enter Tryd.func59, Tryd.ntmps59
    go_wp2_with fail
    refine HQ0.out.mono ?_; rintro e w1 ⟨rfl, hC1, hG1⟩
    have HC1 := Lib.hid hC1; have HG1 := Lib.hid hG1
    obtain ⟨c0, c1, f1⟩ := hC1.cell
    clear hC1 hG1 HQ0
    go_wp2_with fail
    refine (begins_any x _ hx8).mono ?_; rintro e w' ⟨rfl, rfl⟩
    rw [HB.out]
    go_wp2_with fail
    refine (HW.out _ HC1.out).mono ?_; rintro e w5 ⟨rfl, hC5, hG5⟩
    have HC5 := Lib.hid hC5; have HG5 := Lib.hid (grow_trans HG1.out hG5)
    clear hC5 hG5 c0 c1 f1
    go_wp2_with fail
    refine (fold_any T _ hsz).mono ?_; rintro e w6 ⟨rfl, hb6⟩
    have HC6 := Lib.hid (HC5.out.below hb6); have HG6 := Lib.hid (grow_trans HG5.out (grow_below hb6 _))
    clear hb6
    go_wp2_with fail
    go_ret2
    exact OptK.some HT.out ⟨rfl, HC6.out, HG6.out⟩

set_option maxRecDepth 100000 in
set_option maxHeartbeats 4000000 in
theorem token_name (p i : Nat) (s : ByteArray) (w : World) (h : Cur w p s i) (hi : i < s.size) (hs : s.size ≤ 2000)
    (ha : pb s i = 34) :
    Calls Tryd.prog 59 #[.pointer (some ⟨p, 0, none⟩)] w (OptK p s w (token ((bytes s).drop i))) := by
  have HT := Lib.hid (token_eq hi)
  rw [if_neg (by omega), if_neg (by rw [ha]; decide), if_pos ha] at HT
  have hx8 := pb_lt s i
  have HQ0 := Lib.hid (peek_at p i 0 s w w h (grow_refl _ _) hs (by omega))
  rw [Nat.add_zero] at HQ0
  have HQ1 := Lib.hid (fun (W : World) (h1 : Cur W p s i) (h2 : w.grownBy W (some p)) => peek_at p i 1 s w W h1 h2 hs (by omega))
  have HLL := Lib.hid (bytes_len s)
  obtain ⟨x, hx⟩ : ∃ x, x = pb s i := ⟨_, rfl⟩
  obtain ⟨y, hy⟩ : ∃ y, y = pb s (i + 1) := ⟨_, rfl⟩
  rw [← hx] at HQ0 hx8 ha
  simp only [← hy] at HQ1
  have HX := Lib.hid hx; have HY := Lib.hid hy
  clear h hx hy
  subst ha
  have HQQ := Lib.hid (fun (W : World) (h1 : Cur W p s i) => quoted_any 34 p i false s W h1 hi hs (by omega))
  rw [show (UInt8.ofNat 34) = 34 from rfl] at HQQ
  obtain ⟨QQ, hQQ⟩ : ∃ QQ, QQ = qt 34 false ((bytes s).drop (i + 1)) := ⟨_, rfl⟩
  simp only [← hQQ] at HQQ
  rw [← hQQ] at HT
  clear hQQ
  go_enter Tryd.func59, Tryd.ntmps59
  go_wp2_with fail
  refine HQ0.out.mono ?_; rintro e w1 ⟨rfl, hC1, hG1⟩
  have HC1 := Lib.hid hC1; have HG1 := Lib.hid hG1
  obtain ⟨c0, c1, f1⟩ := hC1.cell
  clear hC1 hG1 HQ0
  go_wp2_with fail
  refine (begins_any 34 _ (by decide)).mono ?_; rintro e w' ⟨rfl, rfl⟩
  rw [show bwN 34 = false by decide]
  go_wp2_with fail
  refine (HQQ.out _ HC1.out).mono ?_; rintro e w9 ⟨hS, hN⟩
  cases hq : QQ with
  | none =>
    obtain ⟨rfl, hj, hG9⟩ := hN hq
    have HJ := Lib.hid hj; have HG9 := Lib.hid hG9
    have HR := Lib.hid (show token ((bytes s).drop i) = none by rw [HT.out, hq]; rfl)
    clear hj hG9 hS hN hq
    go_wp2_with fail
    exact ⟨rfl, OptK.none HR.out (Stuck.later ⟨rfl, HJ.out, HG9.out⟩ HG1.out)⟩
  | some q =>
    obtain ⟨t, r⟩ := q
    obtain ⟨rfl, hC9, hG9⟩ := hS t r hq
    have HC9 := Lib.hid hC9; have HG9 := Lib.hid (grow_trans HG1.out hG9)
    cases t with
    | nil =>
      have HR := Lib.hid (show token ((bytes s).drop i) = none by rw [HT.out, hq]; rfl)
      clear hC9 hG9 hS hN hq
      go_wp2_with fail
      refine (demand_false _).mono ?_; rintro e w' ⟨rfl, rfl⟩
      go_wp2_with fail
      exact ⟨rfl, OptK.none HR.out ⟨rfl, ⟨_, HC9.out⟩, HG9.out⟩⟩
    | cons a t =>
      have HR := Lib.hid (show token ((bytes s).drop i) = some (113, a :: t, r) by rw [HT.out, hq]; rfl)
      clear hC9 hG9 hS hN hq
      go_wp2_with fail
      refine (demand_true _).mono ?_; rintro e w' ⟨rfl, rfl⟩
      go_wp2_with fail
      go_ret2
      exact OptK.some HR.out ⟨rfl, HC9.out, HG9.out⟩

set_option maxRecDepth 100000 in
set_option maxHeartbeats 4000000 in
theorem token_text (p i : Nat) (s : ByteArray) (w : World) (h : Cur w p s i) (hi : i < s.size) (hs : s.size ≤ 2000)
    (ha : pb s i = 39) :
    Calls Tryd.prog 59 #[.pointer (some ⟨p, 0, none⟩)] w (OptK p s w (token ((bytes s).drop i))) := by
  have HT := Lib.hid (token_eq hi)
  rw [if_neg (by omega), if_neg (by rw [ha]; decide), if_neg (by omega), if_pos ha] at HT
  have hx8 := pb_lt s i
  have HQ0 := Lib.hid (peek_at p i 0 s w w h (grow_refl _ _) hs (by omega))
  rw [Nat.add_zero] at HQ0
  have HQ1 := Lib.hid (fun (W : World) (h1 : Cur W p s i) (h2 : w.grownBy W (some p)) => peek_at p i 1 s w W h1 h2 hs (by omega))
  have HLL := Lib.hid (bytes_len s)
  obtain ⟨x, hx⟩ : ∃ x, x = pb s i := ⟨_, rfl⟩
  obtain ⟨y, hy⟩ : ∃ y, y = pb s (i + 1) := ⟨_, rfl⟩
  rw [← hx] at HQ0 hx8 ha
  simp only [← hy] at HQ1
  have HX := Lib.hid hx; have HY := Lib.hid hy
  clear h hx hy
  subst ha
  have HQQ := Lib.hid (fun (W : World) (h1 : Cur W p s i) => quoted_any 39 p i false s W h1 hi hs (by omega))
  rw [show (UInt8.ofNat 39) = 39 from rfl] at HQQ
  obtain ⟨QQ, hQQ⟩ : ∃ QQ, QQ = qt 39 false ((bytes s).drop (i + 1)) := ⟨_, rfl⟩
  simp only [← hQQ] at HQQ
  rw [← hQQ] at HT
  clear hQQ
  go_enter Tryd.func59, Tryd.ntmps59
  go_wp2_with fail
  refine HQ0.out.mono ?_; rintro e w1 ⟨rfl, hC1, hG1⟩
  have HC1 := Lib.hid hC1; have HG1 := Lib.hid hG1
  obtain ⟨c0, c1, f1⟩ := hC1.cell
  clear hC1 hG1 HQ0
  go_wp2_with fail
  refine (begins_any 39 _ (by decide)).mono ?_; rintro e w' ⟨rfl, rfl⟩
  rw [show bwN 39 = false by decide]
  go_wp2_with fail
  refine (HQQ.out _ HC1.out).mono ?_; rintro e w9 ⟨hS, hN⟩
  cases hq : QQ with
  | none =>
    obtain ⟨rfl, hj, hG9⟩ := hN hq
    have HJ := Lib.hid hj; have HG9 := Lib.hid hG9
    have HR := Lib.hid (show token ((bytes s).drop i) = none by rw [HT.out, hq]; rfl)
    clear hj hG9 hS hN hq
    go_wp2_with fail
    exact ⟨rfl, OptK.none HR.out (Stuck.later ⟨rfl, HJ.out, HG9.out⟩ HG1.out)⟩
  | some q =>
    obtain ⟨t, r⟩ := q
    obtain ⟨rfl, hC9, hG9⟩ := hS t r hq
    have HC9 := Lib.hid hC9; have HG9 := Lib.hid (grow_trans HG1.out hG9)
    have HR := Lib.hid (show token ((bytes s).drop i) = some (115, t, r) by rw [HT.out, hq]; rfl)
    clear hC9 hG9 hS hN hq
    go_wp2_with fail
    go_ret2
    exact OptK.some HR.out ⟨rfl, HC9.out, HG9.out⟩

set_option maxRecDepth 100000 in
set_option maxHeartbeats 4000000 in
theorem token_number (p i : Nat) (s : ByteArray) (w : World) (h : Cur w p s i) (hi : i < s.size) (hs : s.size ≤ 2000)
    (hb : bwN (pb s i) = false) (h34 : ¬ pb s i = 34) (h39 : ¬ pb s i = 39) (ha : dgN (pb s i) = true ∨ pb s i = 46 ∧ dgN (pb s (i + 1)) = true) :
    Calls Tryd.prog 59 #[.pointer (some ⟨p, 0, none⟩)] w (OptK p s w (token ((bytes s).drop i))) := by
  have HT := Lib.hid (token_eq hi)
  rw [if_neg (fun e => by rcases e.1 with h | h <;> rw [h] at hb <;> exact absurd hb (by decide)), if_neg (by rw [hb]; simp), if_neg h34, if_neg h39, if_pos ha] at HT
  have hx8 := pb_lt s i
  have HQ0 := Lib.hid (peek_at p i 0 s w w h (grow_refl _ _) hs (by omega))
  rw [Nat.add_zero] at HQ0
  have HQ1 := Lib.hid (fun (W : World) (h1 : Cur W p s i) (h2 : w.grownBy W (some p)) => peek_at p i 1 s w W h1 h2 hs (by omega))
  have HLL := Lib.hid (bytes_len s)
  obtain ⟨x, hx⟩ : ∃ x, x = pb s i := ⟨_, rfl⟩
  obtain ⟨y, hy⟩ : ∃ y, y = pb s (i + 1) := ⟨_, rfl⟩
  rw [← hx] at HQ0 hx8 ha hb h34 h39
  simp only [← hy] at HQ1 ha
  have HX := Lib.hid hx; have HY := Lib.hid hy
  clear h hx hy
  have hy8 := pb_lt s (i + 1)
  have HNU := Lib.hid (fun (W : World) (h1 : Cur W p s i) => number_any p i s W h1 (by omega) hs)
  have hnl := nl_le ((bytes s).drop i)
  have hll := bytes_len s
  rw [List.length_drop, hll] at hnl
  have HV := Lib.hid (show s.extract i (i + nl ((bytes s).drop i)) = ⟨(((bytes s).drop i).take (nl ((bytes s).drop i))).toArray⟩ by rw [extract_eq, show i + nl ((bytes s).drop i) - i = nl ((bytes s).drop i) by omega])
  have HJ := Lib.hid (show s.size - (((bytes s).drop i).drop (nl ((bytes s).drop i))).length = i + nl ((bytes s).drop i) by rw [List.length_drop, List.length_drop, hll]; omega)
  have HB := Lib.hid hb
  rw [← HY.out] at hy8
  have h101 : ¬ x = 101 := fun h => by rw [h] at hb; exact absurd hb (by decide)
  have h69 : ¬ x = 69 := fun h => by rw [h] at hb; exact absurd hb (by decide)
  have hz1 : ((x : Int) == 101) = false := by simp; omega
  have hz2 : ((x : Int) == 69) = false := by simp; omega
  clear h101 h69
  have hz3 : ((x : Int) == 34) = false := by simp; omega
  have hz4 : ((x : Int) == 39) = false := by simp; omega
  have hcs : dgN x = true ∨ dgN x = false ∧ x = 46 ∧ dgN y = true := by
    cases hd : dgN x with
    | true => exact .inl rfl
    | false => rw [hd] at ha; exact .inr ⟨rfl, by simpa using ha⟩
  clear ha hb h34 h39 hnl hll
  rcases hcs with hd | ⟨hd, h46, hdy⟩
  · have HD := Lib.hid hd
    clear hd
    go_enter Tryd.func59, Tryd.ntmps59
    go_wp2_with fail
    refine HQ0.out.mono ?_; rintro e w1 ⟨rfl, hC1, hG1⟩
    have HC1 := Lib.hid hC1; have HG1 := Lib.hid hG1
    obtain ⟨c0, c1, f1⟩ := hC1.cell
    clear hC1 hG1 HQ0
    go_wp2_with fail
    refine (begins_any x _ hx8).mono ?_; rintro e w' ⟨rfl, rfl⟩
    rw [HB.out]
    go_wp2_with fail
    refine (digit_any x _ hx8).mono ?_; rintro e w' ⟨rfl, rfl⟩
    rw [HD.out]
    go_wp2_with fail
    refine (HNU.out _ HC1.out).mono ?_; rintro e w5 ⟨rfl, hC5, hG5⟩
    have HC5 := Lib.hid hC5; have HG5 := Lib.hid (grow_trans HG1.out hG5)
    clear hC5 hG5
    go_wp2_with fail
    go_ret2
    exact OptK.some HT.out ⟨by rw [← HV.out]; rfl, by rw [HJ.out]; exact HC5.out, HG5.out⟩
  · have HD := Lib.hid hd; have HDY := Lib.hid hdy
    have hz5 : ((x : Int) == 46) = true := by simp; omega
    clear hd hdy h46
    go_enter Tryd.func59, Tryd.ntmps59
    go_wp2_with fail
    refine HQ0.out.mono ?_; rintro e w1 ⟨rfl, hC1, hG1⟩
    have HC1 := Lib.hid hC1; have HG1 := Lib.hid hG1
    obtain ⟨c0, c1, f1⟩ := hC1.cell
    clear hC1 hG1 HQ0
    go_wp2_with fail
    refine (begins_any x _ hx8).mono ?_; rintro e w' ⟨rfl, rfl⟩
    rw [HB.out]
    go_wp2_with fail
    refine (digit_any x _ hx8).mono ?_; rintro e w' ⟨rfl, rfl⟩
    rw [HD.out]
    go_wp2_with fail
    refine (HQ1.out _ HC1.out HG1.out).mono ?_; rintro e w2 ⟨rfl, hC2, hG2⟩
    have HC2 := Lib.hid hC2; have HG2 := Lib.hid hG2
    clear c0 c1 f1
    obtain ⟨c0, c1, f1⟩ := hC2.cell
    clear hC2 hG2 HC1 HG1
    go_wp2_with fail
    refine (digit_any y _ hy8).mono ?_; rintro e w' ⟨rfl, rfl⟩
    rw [HDY.out]
    go_wp2_with fail
    refine (HNU.out _ HC2.out).mono ?_; rintro e w5 ⟨rfl, hC5, hG5⟩
    have HC5 := Lib.hid hC5; have HG5 := Lib.hid (grow_trans HG2.out hG5)
    clear hC5 hG5
    go_wp2_with fail
    go_ret2
    exact OptK.some HT.out ⟨by rw [← HV.out]; rfl, by rw [HJ.out]; exact HC5.out, HG5.out⟩

theorem body_prefix (r : Bs) : tagBody r <+: r := by
  cases r with
  | nil => exact List.prefix_refl _
  | cons b r =>
    rw [tagBody]
    cases h : bw b with
    | true => rw [if_pos rfl]; exact (List.prefix_cons_inj b).2 (List.takeWhile_prefix _)
    | false => rw [if_neg (by simp)]; exact List.nil_prefix

theorem tag_prefix {l t : Bs} (h : tagOf l = some t) : t = l.take t.length ∧ t.length ≤ l.length ∧ (∃ r, l = 36 :: r) ∧ 0 < t.length := by
  cases l with
  | nil => cases h
  | cons a r =>
    rw [tagOf] at h
    by_cases h1 : a = 36 ∧ (r.drop (tagBody r).length).head? = some 36
    · rw [if_pos h1] at h
      obtain ⟨h0, h2⟩ := h1
      obtain ⟨q, hq⟩ := body_prefix r
      have h3 : r.drop (tagBody r).length = q := by
        have : r = tagBody r ++ q := hq.symm
        conv => lhs; rw [this]
        rw [show (tagBody (tagBody r ++ q)).length = (tagBody r).length by rw [hq], List.drop_left]
      rw [h3] at h2
      cases q with
      | nil => cases h2
      | cons c q =>
        simp at h2
        subst h2
        have hp : (36 : UInt8) :: (tagBody r ++ [36]) <+: a :: r := by
          rw [h0]
          refine (List.prefix_cons_inj 36).2 ⟨q, ?_⟩
          rw [List.append_assoc]; exact hq
        injection h with h
        subst h
        exact ⟨List.prefix_iff_eq_take.1 hp, hp.length_le, ⟨r, by rw [h0]⟩, by simp⟩
    · rw [if_neg h1] at h; cases h

set_option maxRecDepth 100000 in
set_option maxHeartbeats 4000000 in
theorem token_tag (p i : Nat) (s : ByteArray) (w : World) (h : Cur w p s i) (hi : i < s.size) (hs : s.size ≤ 2000)
    (m : Int) (hm : w.cell? ⟨2, 0, none⟩ = some (.int .i64 m)) (hp : p ≠ 2) (t : Bs) (ht : tagOf ((bytes s).drop i) = some t) :
    Calls Tryd.prog 59 #[.pointer (some ⟨p, 0, none⟩)] w (OptK p s w (token ((bytes s).drop i))) := by
  have HT := Lib.hid (token_eq hi)
  obtain ⟨htp, htl, ⟨r0, hr0⟩, ht0⟩ := tag_prefix ht
  have h36 : pb s i = 36 := by
    rw [drop_cons hi] at hr0
    injection hr0 with h _
    exact (ofNat_eq s i 36 (by decide)).1 h
  rw [if_neg (by omega), if_neg (by rw [h36]; decide), if_neg (by omega), if_neg (by omega), if_neg (by rw [h36]; simp; decide), ht] at HT
  have hx8 := pb_lt s i
  have HQ0 := Lib.hid (peek_at p i 0 s w w h (grow_refl _ _) hs (by omega))
  rw [Nat.add_zero] at HQ0
  have HQ1 := Lib.hid (fun (W : World) (h1 : Cur W p s i) (h2 : w.grownBy W (some p)) => peek_at p i 1 s w W h1 h2 hs (by omega))
  have HLL := Lib.hid (bytes_len s)
  obtain ⟨x, hx⟩ : ∃ x, x = pb s i := ⟨_, rfl⟩
  obtain ⟨y, hy⟩ : ∃ y, y = pb s (i + 1) := ⟨_, rfl⟩
  rw [← hx] at HQ0 hx8 h36
  simp only [← hy] at HQ1
  have HX := Lib.hid hx; have HY := Lib.hid hy
  clear h hx hy
  subst h36
  have hll := bytes_len s
  rw [List.length_drop, hll] at htl
  obtain ⟨tg, htg⟩ : ∃ tg, tg = s.extract i (i + t.length) := ⟨_, rfl⟩
  have hbt : bytes tg = t := by
    rw [htg]
    show (s.extract i (i + t.length)).data.toList = t
    rw [Lib.extract_data, show i + t.length - i = t.length by omega]
    exact htp.symm
  have hts : tg.size = t.length := by rw [← bytes_len tg, hbt]
  have HTA := Lib.hid (fun (W : World) (h1 : Cur W p s i) => tag_any p i s W h1 (by omega) hs)
  have HTT := Lib.hid ht
  have HTG := Lib.hid htg
  have HTD := Lib.hid (fun (W : World) (h1 : Cur W p s i) (h2 : W.cell? ⟨2, 0, none⟩ = some (.int .i64 m)) => tagged_any p i m s tg W h1 (by omega) hs h2)
  simp only [hbt, hts] at HTD
  have hne : tg.toList.isEmpty = false := by
    rw [Lib.toList_data, show tg.data.toList = t from hbt]
    cases t with
    | nil => simp at ht0
    | cons a t => rfl
  have hw0 : 2 < w.heap.size := World.block_lt_of_cell? w ⟨2, 0, none⟩ hm
  have HM := Lib.hid (fun (W : World) (hg : w.grownBy W (some p)) => (World.cell?_of_block (a := ⟨2, 0, none⟩) (hg.block 2 hw0 (by simpa using hp.symm))).trans hm)
  clear ht htg hm htp htl hr0 hll hbt hw0
  go_enter Tryd.func59, Tryd.ntmps59
  go_wp2_with fail
  refine HQ0.out.mono ?_; rintro e w1 ⟨rfl, hC1, hG1⟩
  have HC1 := Lib.hid hC1; have HG1 := Lib.hid hG1
  obtain ⟨c0, c1, f1⟩ := hC1.cell
  clear hC1 hG1 HQ0
  go_wp2_with fail
  refine (begins_any 36 _ (by decide)).mono ?_; rintro e w' ⟨rfl, rfl⟩
  rw [show bwN 36 = false by decide]
  go_wp2_with fail
  refine (digit_any 36 _ (by decide)).mono ?_; rintro e w' ⟨rfl, rfl⟩
  rw [show dgN 36 = false by decide]
  go_wp2_with fail
  refine (HTA.out _ HC1.out).mono ?_; rintro e w5 ⟨hS, _, hC5, hG5⟩
  obtain rfl := hS t HTT.out
  rw [← HTG.out]
  have HC5 := Lib.hid hC5; have HG5 := Lib.hid (grow_trans HG1.out hG5)
  clear hC5 hG5 hS
  go_wp2_with fail
  refine (HTD.out _ HC5.out (HM.out _ HG5.out)).mono ?_; rintro e w9 ⟨hS, hN⟩
  cases hq : find t (((bytes s).drop i).drop t.length) with
  | none =>
    obtain ⟨rfl, hj, hG9⟩ := hN (by rw [← List.drop_drop, hq]; rfl)
    have HJ := Lib.hid hj; have HG9 := Lib.hid (grow_trans HG5.out hG9)
    have HR := Lib.hid (show token ((bytes s).drop i) = none by rw [HT.out, hq]; rfl)
    clear hj hG9 hS hN hq
    go_wp2_with fail
    exact ⟨rfl, OptK.none HR.out ⟨rfl, HJ.out, HG9.out⟩⟩
  | some n =>
    obtain ⟨rfl, hC9, hG9⟩ := hS (((bytes s).drop (i + t.length)).take n) (((bytes s).drop (i + t.length)).drop (n + t.length)) (by rw [← List.drop_drop, hq]; rfl)
    have HC9 := Lib.hid hC9; have HG9 := Lib.hid (grow_trans HG5.out hG9)
    have HR := Lib.hid (show token ((bytes s).drop i) = some (115, (((bytes s).drop (i + t.length)).take n), (((bytes s).drop (i + t.length)).drop (n + t.length))) by
      rw [HT.out, hq]
      show some ((115 : UInt8), (((bytes s).drop i).drop t.length).take n, ((bytes s).drop i).drop (t.length + n + t.length)) = _
      simp only [List.drop_drop, Nat.add_assoc])
    clear hC9 hG9 hS hN hq
    go_wp2_with fail
    go_ret2
    exact OptK.some HR.out ⟨rfl, HC9.out, HG9.out⟩

theorem encode_small (n : Nat) (h : n < 128) : Utf8.encode (n : Int) = ⟨[UInt8.ofNat n].toArray⟩ := by
  have hv : Utf8.valid (n : Int) = true := by unfold Utf8.valid; simp; omega
  unfold Utf8.encode
  simp only [hv, if_true, Int.toNat_natCast, h]

set_option maxRecDepth 100000 in
set_option maxHeartbeats 4000000 in
theorem token_sign (p i : Nat) (s : ByteArray) (w : World) (h : Cur w p s i) (hi : i < s.size) (hs : s.size ≤ 2000)
    (hb : bwN (pb s i) = false) (h34 : ¬ pb s i = 34) (h39 : ¬ pb s i = 39) (ha : ¬ (dgN (pb s i) = true ∨ pb s i = 46 ∧ dgN (pb s (i + 1)) = true)) (ht : tagOf ((bytes s).drop i) = none) :
    Calls Tryd.prog 59 #[.pointer (some ⟨p, 0, none⟩)] w (OptK p s w (token ((bytes s).drop i))) := by
  have HT := Lib.hid (token_eq hi)
  rw [if_neg (fun e => by rcases e.1 with h | h <;> rw [h] at hb <;> exact absurd hb (by decide)), if_neg (by rw [hb]; simp), if_neg h34, if_neg h39, if_neg ha, ht] at HT
  have hx8 := pb_lt s i
  have HQ0 := Lib.hid (peek_at p i 0 s w w h (grow_refl _ _) hs (by omega))
  rw [Nat.add_zero] at HQ0
  have HQ1 := Lib.hid (fun (W : World) (h1 : Cur W p s i) (h2 : w.grownBy W (some p)) => peek_at p i 1 s w W h1 h2 hs (by omega))
  have HLL := Lib.hid (bytes_len s)
  obtain ⟨x, hx⟩ : ∃ x, x = pb s i := ⟨_, rfl⟩
  obtain ⟨y, hy⟩ : ∃ y, y = pb s (i + 1) := ⟨_, rfl⟩
  rw [← hx] at HQ0 hx8 ha hb h34 h39
  simp only [← hy] at HQ1 ha
  have HX := Lib.hid hx; have HY := Lib.hid hy
  clear h hx hy
  have hy8 := pb_lt s (i + 1)
  have HTT := Lib.hid ht
  have HTA := Lib.hid (fun (W : World) (h1 : Cur W p s i) => tag_any p i s W h1 (by omega) hs)
  have hx128 : x < 128 := by
    have := mt (bwN_iff x hx8).2 (by rw [hb]; simp)
    omega
  have HEN := Lib.hid (encode_small x hx128)
  have hll := bytes_len s
  have HJ := Lib.hid (show s.size - ((bytes s).drop (i + 1)).length = i + 1 by rw [List.length_drop, hll]; omega)
  have HB := Lib.hid hb
  rw [← HY.out] at hy8
  have h101 : ¬ x = 101 := fun h => by rw [h] at hb; exact absurd hb (by decide)
  have h69 : ¬ x = 69 := fun h => by rw [h] at hb; exact absurd hb (by decide)
  have hz1 : ((x : Int) == 101) = false := by simp; omega
  have hz2 : ((x : Int) == 69) = false := by simp; omega
  clear h101 h69
  have hz3 : ((x : Int) == 34) = false := by simp; omega
  have hz4 : ((x : Int) == 39) = false := by simp; omega
  have HD := Lib.hid (show dgN x = false by rw [← Bool.not_eq_true]; exact fun e => ha (.inl e))
  have hcs : x = 46 ∧ dgN y = false ∨ ¬ x = 46 := by
    by_cases h : x = 46
    · exact .inl ⟨h, by rw [← Bool.not_eq_true]; exact fun e => ha (.inr ⟨h, e⟩)⟩
    · exact .inr h
  clear ha hb h34 h39 hll ht
  rcases hcs with ⟨h46, hdy⟩ | h46
  · have HDY := Lib.hid hdy
    have hz5 : ((x : Int) == 46) = true := by simp; omega
    clear hdy h46
    go_enter Tryd.func59, Tryd.ntmps59
    go_wp2_with fail
    refine HQ0.out.mono ?_; rintro e w1 ⟨rfl, hC1, hG1⟩
    have HC1 := Lib.hid hC1; have HG1 := Lib.hid hG1
    obtain ⟨c0, c1, f1⟩ := hC1.cell
    clear hC1 hG1 HQ0
    go_wp2_with fail
    refine (begins_any x _ hx8).mono ?_; rintro e w' ⟨rfl, rfl⟩
    rw [HB.out]
    go_wp2_with fail
    refine (digit_any x _ hx8).mono ?_; rintro e w' ⟨rfl, rfl⟩
    rw [HD.out]
    go_wp2_with fail
    refine (HQ1.out _ HC1.out HG1.out).mono ?_; rintro e w2 ⟨rfl, hC2, hG2⟩
    have HC2 := Lib.hid hC2; have HG2 := Lib.hid hG2
    clear c0 c1 f1
    obtain ⟨c0, c1, f1⟩ := hC2.cell
    clear hC2 hG2 HC1 HG1
    go_wp2_with fail
    refine (digit_any y _ hy8).mono ?_; rintro e w' ⟨rfl, rfl⟩
    rw [HDY.out]
    go_wp2_with fail
    refine (HTA.out _ HC2.out).mono ?_; rintro e w5 ⟨_, hN, hC5, hG5⟩
    obtain rfl := hN HTT.out
    have HC5 := Lib.hid hC5; have HG5 := Lib.hid (grow_trans HG2.out hG5)
    clear c0 c1 f1
    obtain ⟨c0, c1, f1⟩ := hC5.cell
    clear hC5 hG5 hN
    go_wp2_with fail
    go_ret2
    obtain ⟨a1, a2⟩ := cur_step (n := 0) (w := w) (z := (i : Int) + 1) (j := i + 1) HC5.out HG5.out (by omega)
    refine OptK.some HT.out ⟨?_, by rw [HJ.out]; exact a1, a2⟩
    rw [← HX.out, ← HEN.out]; rfl
  · have hz5 : ((x : Int) == 46) = false := by simp; omega
    clear h46
    go_enter Tryd.func59, Tryd.ntmps59
    go_wp2_with fail
    refine HQ0.out.mono ?_; rintro e w1 ⟨rfl, hC1, hG1⟩
    have HC1 := Lib.hid hC1; have HG1 := Lib.hid hG1
    obtain ⟨c0, c1, f1⟩ := hC1.cell
    clear hC1 hG1 HQ0
    go_wp2_with fail
    refine (begins_any x _ hx8).mono ?_; rintro e w' ⟨rfl, rfl⟩
    rw [HB.out]
    go_wp2_with fail
    refine (digit_any x _ hx8).mono ?_; rintro e w' ⟨rfl, rfl⟩
    rw [HD.out]
    go_wp2_with fail
    refine (HTA.out _ HC1.out).mono ?_; rintro e w5 ⟨_, hN, hC5, hG5⟩
    obtain rfl := hN HTT.out
    have HC5 := Lib.hid hC5; have HG5 := Lib.hid (grow_trans HG1.out hG5)
    clear c0 c1 f1
    obtain ⟨c0, c1, f1⟩ := hC5.cell
    clear hC5 hG5 hN
    go_wp2_with fail
    go_ret2
    obtain ⟨a1, a2⟩ := cur_step (n := 0) (w := w) (z := (i : Int) + 1) (j := i + 1) HC5.out HG5.out (by omega)
    refine OptK.some HT.out ⟨?_, by rw [HJ.out]; exact a1, a2⟩
    rw [← HX.out, ← HEN.out]; rfl

theorem token_any (p i : Nat) (m : Int) (s : ByteArray) (w : World) (h : Cur w p s i) (hi : i < s.size) (hs : s.size ≤ 2000) (hm : w.cell? ⟨2, 0, none⟩ = some (.int .i64 m)) (hp : p ≠ 2) :
    Calls Tryd.prog 59 #[.pointer (some ⟨p, 0, none⟩)] w (OptK p s w (token ((bytes s).drop i))) := by
  by_cases h1 : (pb s i = 101 ∨ pb s i = 69) ∧ pb s (i + 1) = 39
  · exact token_esc p i s w h hi hs h1
  cases h2 : bwN (pb s i) with
  | true => exact token_word p i s w h hi hs h1 h2
  | false =>
    by_cases h3 : pb s i = 34
    · exact token_name p i s w h hi hs h3
    by_cases h4 : pb s i = 39
    · exact token_text p i s w h hi hs h4
    by_cases h5 : dgN (pb s i) = true ∨ pb s i = 46 ∧ dgN (pb s (i + 1)) = true
    · exact token_number p i s w h hi hs h2 h3 h4 h5
    cases h6 : tagOf ((bytes s).drop i) with
    | some t => exact token_tag p i s w h hi hs m hm hp t h6
    | none => exact token_sign p i s w h hi hs h2 h3 h4 h5 h6
end Go.Proofs.YtgopajddloeclaaDoor
