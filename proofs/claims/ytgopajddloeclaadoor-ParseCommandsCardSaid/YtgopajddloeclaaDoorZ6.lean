/- Contracts and mathematics: Number. -/
import Derived.Test.YtgopajddloeclaaDoorZ5
import Derived.Deep.RegionWith
namespace Go.Proofs.YtgopajddloeclaaDoor
open Go.RowKit Go.Lib Go.WideShapes

/-- How many bytes the e of a power and its sign are. -/
def ex (s : ByteArray) (j : Nat) : Nat :=
  if pb s j = 101 ∨ pb s j = 69 then (if pb s (j + 1) = 43 ∨ pb s (j + 1) = 45 then (if dgN (pb s (j + 2)) then 2 else 0) else (if dgN (pb s (j + 1)) then 1 else 0)) else 0

theorem dgN_lt {s : ByteArray} {j : Nat} (h : dgN (pb s j) = true) : j < s.size := by
  by_cases hlt : j < s.size
  · exact hlt
  · rw [pb_out s j (by omega)] at h; exact absurd h (by decide)

theorem ex_le (s : ByteArray) (j : Nat) : ex s j ≤ 2 ∧ (0 < ex s j → j + ex s j < s.size) := by
  unfold ex
  split
  · split
    · split
      · rename_i h; exact ⟨Nat.le_refl _, fun _ => dgN_lt h⟩
      · exact ⟨by omega, fun h => by omega⟩
    · split
      · rename_i h; exact ⟨by omega, fun _ => dgN_lt h⟩
      · exact ⟨by omega, fun h => by omega⟩
  · exact ⟨by omega, fun h => by omega⟩

set_option maxRecDepth 100000 in
set_option maxHeartbeats 2000000 in
theorem exponent_any (p j : Nat) (s : ByteArray) (w wr : World) (h : Cur wr p s j) (hg : w.grownBy wr (some p)) (hj : j ≤ s.size) (hs : s.size ≤ 2000) :
    Calls Tryd.prog 109 #[.pointer (some ⟨p, 0, none⟩)] wr fun e w' => e = .returned (.int .i64 (ex s j : Nat)) ∧ Cur w' p s j ∧ w.grownBy w' (some p) := by
  have hP : ∀ (k x : Nat) (W : World), pb s (j + k) = x → k ≤ 2 → Cur W p s j → w.grownBy W (some p) → Calls Tryd.prog 82 #[.pointer (some ⟨p, 0, none⟩), .int .i64 (k : Nat)] W fun e w' => e = .returned (.int .u8 x) ∧ Cur w' p s j ∧ w.grownBy w' (some p) := by
    intro k x W hx hk h1 h2
    have := peek_at p j k s w W h1 h2 hs (by omega)
    rwa [hx] at this
  have HP := Lib.hid hP
  have HC := Lib.hid h; have HG := Lib.hid hg
  have hp0 := pb_lt s j; have hp1 := pb_lt s (j + 1); have hp2 := pb_lt s (j + 2)
  obtain ⟨n, hn⟩ : ∃ n, n = ex s j := ⟨_, rfl⟩
  rw [← hn]
  unfold ex at hn
  obtain ⟨x, hx⟩ : ∃ x, x = pb s j := ⟨_, rfl⟩
  obtain ⟨y, hy⟩ : ∃ y, y = pb s (j + 1) := ⟨_, rfl⟩
  obtain ⟨z, hz⟩ : ∃ z, z = pb s (j + 2) := ⟨_, rfl⟩
  rw [← hx, ← hy, ← hz] at hn
  rw [← hx] at hp0
  rw [← hy] at hp1
  rw [← hz] at hp2
  have P0 := Lib.hid (fun W => HP.out 0 x W hx.symm (by omega))
  have P1 := Lib.hid (fun W => HP.out 1 y W hy.symm (by omega))
  have P2 := Lib.hid (fun W => HP.out 2 z W hz.symm (by omega))
  have HNN := Lib.hid hn
  clear hP h hg hn hx hy hz HP
  go_enter Tryd.func109, Tryd.ntmps109
  by_cases hc : x = 101 ∨ x = 69
  · have HNX := Lib.hid (HNN.out.trans (if_pos hc))
    by_cases h101 : x = 101
    · subst h101
      clear hc
      go_wp2_with fail
      refine (P0.out _ HC.out HG.out).mono ?_; rintro e wn1 ⟨rfl, hCn1, hGn1⟩
      have HCn1 := Lib.hid hCn1; have HGn1 := Lib.hid hGn1
      clear hCn1 hGn1 HC HG
      by_cases h43 : y = 43
      · subst h43
        go_wp2_with fail
        refine (P1.out _ HCn1.out HGn1.out).mono ?_; rintro e wn2 ⟨rfl, hCn2, hGn2⟩
        have HCn2 := Lib.hid hCn2; have HGn2 := Lib.hid hGn2
        clear hCn2 hGn2 HCn1 HGn1
        go_wp2_with fail
        refine (P2.out _ HCn2.out HGn2.out).mono ?_; rintro e wn3 ⟨rfl, hCn3, hGn3⟩
        have HCn3 := Lib.hid hCn3; have HGn3 := Lib.hid hGn3
        clear hCn3 hGn3 HCn2 HGn2
        go_wp2_with fail
        refine (digit_any z _ hp2).mono ?_; rintro e w' ⟨rfl, rfl⟩
        cases hd : dgN z with
        | true =>
          have HE := Lib.hid ((HNX.out.trans (if_pos (by simp))).trans (if_pos hd))
          clear HNX
          go_wp2_with fail
          go_ret
          rw [HE.out]
          exact ⟨rfl, HCn3.out, HGn3.out⟩
        | false =>
          have HE := Lib.hid ((HNX.out.trans (if_pos (by simp))).trans (if_neg (by rw [hd]; simp)))
          clear HNX
          go_wp2_with fail
          go_ret
          rw [HE.out]
          exact ⟨rfl, HCn3.out, HGn3.out⟩
      · by_cases h45 : y = 45
        · subst h45
          go_wp2_with fail
          refine (P1.out _ HCn1.out HGn1.out).mono ?_; rintro e wn4 ⟨rfl, hCn4, hGn4⟩
          have HCn4 := Lib.hid hCn4; have HGn4 := Lib.hid hGn4
          clear hCn4 hGn4 HCn1 HGn1
          go_wp2_with fail
          refine (P1.out _ HCn4.out HGn4.out).mono ?_; rintro e wn5 ⟨rfl, hCn5, hGn5⟩
          have HCn5 := Lib.hid hCn5; have HGn5 := Lib.hid hGn5
          clear hCn5 hGn5 HCn4 HGn4
          go_wp2_with fail
          refine (P2.out _ HCn5.out HGn5.out).mono ?_; rintro e wn6 ⟨rfl, hCn6, hGn6⟩
          have HCn6 := Lib.hid hCn6; have HGn6 := Lib.hid hGn6
          clear hCn6 hGn6 HCn5 HGn5
          go_wp2_with fail
          refine (digit_any z _ hp2).mono ?_; rintro e w' ⟨rfl, rfl⟩
          cases hd : dgN z with
          | true =>
            have HE := Lib.hid ((HNX.out.trans (if_pos (by simp))).trans (if_pos hd))
            clear HNX
            go_wp2_with fail
            go_ret
            rw [HE.out]
            exact ⟨rfl, HCn6.out, HGn6.out⟩
          | false =>
            have HE := Lib.hid ((HNX.out.trans (if_pos (by simp))).trans (if_neg (by rw [hd]; simp)))
            clear HNX
            go_wp2_with fail
            go_ret
            rw [HE.out]
            exact ⟨rfl, HCn6.out, HGn6.out⟩
        · have g1 : ((y : Int) == 43) = false := by simp; omega
          have g2 : ((y : Int) == 45) = false := by simp; omega
          have HNY := Lib.hid (show ¬ (y = 43 ∨ y = 45) by omega)
          clear h43 h45
          go_wp2_with fail
          refine (P1.out _ HCn1.out HGn1.out).mono ?_; rintro e wn7 ⟨rfl, hCn7, hGn7⟩
          have HCn7 := Lib.hid hCn7; have HGn7 := Lib.hid hGn7
          clear hCn7 hGn7 HCn1 HGn1
          go_wp2_with fail
          refine (P1.out _ HCn7.out HGn7.out).mono ?_; rintro e wn8 ⟨rfl, hCn8, hGn8⟩
          have HCn8 := Lib.hid hCn8; have HGn8 := Lib.hid hGn8
          clear hCn8 hGn8 HCn7 HGn7
          go_wp2_with fail
          refine (P1.out _ HCn8.out HGn8.out).mono ?_; rintro e wn9 ⟨rfl, hCn9, hGn9⟩
          have HCn9 := Lib.hid hCn9; have HGn9 := Lib.hid hGn9
          clear hCn9 hGn9 HCn8 HGn8
          go_wp2_with fail
          refine (digit_any y _ hp1).mono ?_; rintro e w' ⟨rfl, rfl⟩
          cases hd : dgN y with
          | true =>
            have HE := Lib.hid ((HNX.out.trans (if_neg HNY.out)).trans (if_pos hd))
            clear HNX
            go_wp2_with fail
            go_ret
            rw [HE.out]
            exact ⟨rfl, HCn9.out, HGn9.out⟩
          | false =>
            have HE := Lib.hid ((HNX.out.trans (if_neg HNY.out)).trans (if_neg (by rw [hd]; simp)))
            clear HNX
            go_wp2_with fail
            go_ret
            rw [HE.out]
            exact ⟨rfl, HCn9.out, HGn9.out⟩
    · obtain rfl : x = 69 := by omega
      clear hc h101
      go_wp2_with fail
      refine (P0.out _ HC.out HG.out).mono ?_; rintro e wn10 ⟨rfl, hCn10, hGn10⟩
      have HCn10 := Lib.hid hCn10; have HGn10 := Lib.hid hGn10
      clear hCn10 hGn10 HC HG
      go_wp2_with fail
      refine (P0.out _ HCn10.out HGn10.out).mono ?_; rintro e wn11 ⟨rfl, hCn11, hGn11⟩
      have HCn11 := Lib.hid hCn11; have HGn11 := Lib.hid hGn11
      clear hCn11 hGn11 HCn10 HGn10
      by_cases h43 : y = 43
      · subst h43
        go_wp2_with fail
        refine (P1.out _ HCn11.out HGn11.out).mono ?_; rintro e wn12 ⟨rfl, hCn12, hGn12⟩
        have HCn12 := Lib.hid hCn12; have HGn12 := Lib.hid hGn12
        clear hCn12 hGn12 HCn11 HGn11
        go_wp2_with fail
        refine (P2.out _ HCn12.out HGn12.out).mono ?_; rintro e wn13 ⟨rfl, hCn13, hGn13⟩
        have HCn13 := Lib.hid hCn13; have HGn13 := Lib.hid hGn13
        clear hCn13 hGn13 HCn12 HGn12
        go_wp2_with fail
        refine (digit_any z _ hp2).mono ?_; rintro e w' ⟨rfl, rfl⟩
        cases hd : dgN z with
        | true =>
          have HE := Lib.hid ((HNX.out.trans (if_pos (by simp))).trans (if_pos hd))
          clear HNX
          go_wp2_with fail
          go_ret
          rw [HE.out]
          exact ⟨rfl, HCn13.out, HGn13.out⟩
        | false =>
          have HE := Lib.hid ((HNX.out.trans (if_pos (by simp))).trans (if_neg (by rw [hd]; simp)))
          clear HNX
          go_wp2_with fail
          go_ret
          rw [HE.out]
          exact ⟨rfl, HCn13.out, HGn13.out⟩
      · by_cases h45 : y = 45
        · subst h45
          go_wp2_with fail
          refine (P1.out _ HCn11.out HGn11.out).mono ?_; rintro e wn14 ⟨rfl, hCn14, hGn14⟩
          have HCn14 := Lib.hid hCn14; have HGn14 := Lib.hid hGn14
          clear hCn14 hGn14 HCn11 HGn11
          go_wp2_with fail
          refine (P1.out _ HCn14.out HGn14.out).mono ?_; rintro e wn15 ⟨rfl, hCn15, hGn15⟩
          have HCn15 := Lib.hid hCn15; have HGn15 := Lib.hid hGn15
          clear hCn15 hGn15 HCn14 HGn14
          go_wp2_with fail
          refine (P2.out _ HCn15.out HGn15.out).mono ?_; rintro e wn16 ⟨rfl, hCn16, hGn16⟩
          have HCn16 := Lib.hid hCn16; have HGn16 := Lib.hid hGn16
          clear hCn16 hGn16 HCn15 HGn15
          go_wp2_with fail
          refine (digit_any z _ hp2).mono ?_; rintro e w' ⟨rfl, rfl⟩
          cases hd : dgN z with
          | true =>
            have HE := Lib.hid ((HNX.out.trans (if_pos (by simp))).trans (if_pos hd))
            clear HNX
            go_wp2_with fail
            go_ret
            rw [HE.out]
            exact ⟨rfl, HCn16.out, HGn16.out⟩
          | false =>
            have HE := Lib.hid ((HNX.out.trans (if_pos (by simp))).trans (if_neg (by rw [hd]; simp)))
            clear HNX
            go_wp2_with fail
            go_ret
            rw [HE.out]
            exact ⟨rfl, HCn16.out, HGn16.out⟩
        · have g1 : ((y : Int) == 43) = false := by simp; omega
          have g2 : ((y : Int) == 45) = false := by simp; omega
          have HNY := Lib.hid (show ¬ (y = 43 ∨ y = 45) by omega)
          clear h43 h45
          go_wp2_with fail
          refine (P1.out _ HCn11.out HGn11.out).mono ?_; rintro e wn17 ⟨rfl, hCn17, hGn17⟩
          have HCn17 := Lib.hid hCn17; have HGn17 := Lib.hid hGn17
          clear hCn17 hGn17 HCn11 HGn11
          go_wp2_with fail
          refine (P1.out _ HCn17.out HGn17.out).mono ?_; rintro e wn18 ⟨rfl, hCn18, hGn18⟩
          have HCn18 := Lib.hid hCn18; have HGn18 := Lib.hid hGn18
          clear hCn18 hGn18 HCn17 HGn17
          go_wp2_with fail
          refine (P1.out _ HCn18.out HGn18.out).mono ?_; rintro e wn19 ⟨rfl, hCn19, hGn19⟩
          have HCn19 := Lib.hid hCn19; have HGn19 := Lib.hid hGn19
          clear hCn19 hGn19 HCn18 HGn18
          go_wp2_with fail
          refine (digit_any y _ hp1).mono ?_; rintro e w' ⟨rfl, rfl⟩
          cases hd : dgN y with
          | true =>
            have HE := Lib.hid ((HNX.out.trans (if_neg HNY.out)).trans (if_pos hd))
            clear HNX
            go_wp2_with fail
            go_ret
            rw [HE.out]
            exact ⟨rfl, HCn19.out, HGn19.out⟩
          | false =>
            have HE := Lib.hid ((HNX.out.trans (if_neg HNY.out)).trans (if_neg (by rw [hd]; simp)))
            clear HNX
            go_wp2_with fail
            go_ret
            rw [HE.out]
            exact ⟨rfl, HCn19.out, HGn19.out⟩
  · have HNX := Lib.hid (HNN.out.trans (if_neg hc))
    have h1 : ((x : Int) != 101) = true := by simp; omega
    have h2 : ((x : Int) != 69) = true := by simp; omega
    clear hc
    go_wp2_with fail
    refine (P0.out _ HC.out HG.out).mono ?_; rintro e w1 ⟨rfl, hC1, hG1⟩
    have HC1 := Lib.hid hC1; have HG1 := Lib.hid hG1
    clear hC1 hG1
    go_wp2_with fail
    refine (P0.out _ HC1.out HG1.out).mono ?_; rintro e w2 ⟨rfl, hC2, hG2⟩
    have HC2 := Lib.hid hC2; have HG2 := Lib.hid hG2
    clear hC2 hG2
    go_wp2_with fail
    go_ret
    rw [HNX.out]
    exact ⟨rfl, HC2.out, HG2.out⟩

theorem nl_on {a : UInt8} {r : Bs} (h : dg a = true ∨ a = 46) : nl (a :: r) = 1 + nl r := by
  rw [nl.eq_def]
  have e : (dg a || a == 46) = true := by simpa using h
  simp only [e, if_true]

theorem nl_else {a : UInt8} {r : Bs} (h : ¬ (dg a = true ∨ a = 46)) : nl (a :: r) = if a = 101 ∨ a = 69 then (if r.headD 0 = 43 ∨ r.headD 0 = 45 then (if dg (r.tail.headD 0) then 2 + nl r.tail else 0) else (if dg (r.headD 0) then 1 + nl r else 0)) else 0 := by
  rw [nl.eq_def]
  have e : (dg a || a == 46) = false := by rw [← Bool.not_eq_true]; simpa using h
  simp only [e]
  by_cases h1 : a = 101 ∨ a = 69
  · have e1 : (a == 101 || a == 69) = true := by simpa using h1
    rw [if_pos h1]
    simp only [e1]
    match r with
    | [] => simp [dg]
    | [b] =>
      by_cases h2 : b = 43 ∨ b = 45
      · have e2 : dg b = false := by rcases h2 with rfl | rfl <;> decide
        simp [e2, h2, show dg 0 = false by decide]
      · have e3 : (b == 43 || b == 45) = false := by rw [← Bool.not_eq_true]; simpa using h2
        rw [if_neg (show ¬ ([b].headD 0 = 43 ∨ [b].headD 0 = 45) from h2)]
        simp [e3]
    | b :: c :: r =>
      by_cases h2 : b = 43 ∨ b = 45
      · have e2 : dg b = false := by rcases h2 with rfl | rfl <;> decide
        simp [e2, h2]
      · have e3 : (b == 43 || b == 45) = false := by rw [← Bool.not_eq_true]; simpa using h2
        rw [if_neg (show ¬ ((b :: c :: r).headD 0 = 43 ∨ (b :: c :: r).headD 0 = 45) from h2)]
        simp [e3]
  · have e1 : (a == 101 || a == 69) = false := by rw [← Bool.not_eq_true]; simpa using h1
    rw [if_neg h1]
    simp [e1]

theorem head_pb (s : ByteArray) (j : Nat) : ((bytes s).drop j).headD 0 = UInt8.ofNat (pb s j) := by
  by_cases h : j < s.size
  · rw [drop_cons h]; rfl
  · rw [List.drop_eq_nil_of_le (by rw [bytes_len]; omega), pb_out s j (by omega)]; rfl

theorem nl_step (s : ByteArray) (j : Nat) (hj : j < s.size) (h : ¬ (dgN (pb s j) = true ∨ pb s j = 46)) : nl ((bytes s).drop j) = if ex s j = 0 then 0 else ex s j + nl ((bytes s).drop (j + ex s j)) := by
  have h' : ¬ (dg (UInt8.ofNat (pb s j)) = true ∨ UInt8.ofNat (pb s j) = 46) := fun e => h (e.imp id (ofNat_eq s j 46 (by decide)).1)
  rw [drop_cons hj, nl_else h', List.tail_drop, head_pb, head_pb]
  have e1 : (UInt8.ofNat (pb s j) = 101 ∨ UInt8.ofNat (pb s j) = 69) ↔ (pb s j = 101 ∨ pb s j = 69) := or_congr (ofNat_eq s j 101 (by decide)) (ofNat_eq s j 69 (by decide))
  have e2 : (UInt8.ofNat (pb s (j + 1)) = 43 ∨ UInt8.ofNat (pb s (j + 1)) = 45) ↔ (pb s (j + 1) = 43 ∨ pb s (j + 1) = 45) := or_congr (ofNat_eq s _ 43 (by decide)) (ofNat_eq s _ 45 (by decide))
  unfold ex
  by_cases h1 : pb s j = 101 ∨ pb s j = 69
  · rw [if_pos (e1.2 h1), if_pos h1]
    by_cases h2 : pb s (j + 1) = 43 ∨ pb s (j + 1) = 45
    · rw [if_pos (e2.2 h2), if_pos h2]
      by_cases h3 : dgN (pb s (j + 2)) = true
      · rw [if_pos h3, if_pos (show dg (UInt8.ofNat (pb s (j + 1 + 1))) = true from h3), if_neg (by decide)]
      · rw [if_neg h3, if_neg (show ¬ dg (UInt8.ofNat (pb s (j + 1 + 1))) = true from h3), if_pos rfl]
    · rw [if_neg (mt e2.1 h2), if_neg h2]
      by_cases h3 : dgN (pb s (j + 1)) = true
      · rw [if_pos h3, if_pos (show dg (UInt8.ofNat (pb s (j + 1))) = true from h3), if_neg (by decide)]
      · rw [if_neg h3, if_neg (show ¬ dg (UInt8.ofNat (pb s (j + 1))) = true from h3), if_pos rfl]
  · rw [if_neg (mt e1.1 h1), if_neg h1, if_pos rfl]

set_option maxRecDepth 100000 in
set_option maxHeartbeats 2000000 in
theorem number_any (p i : Nat) (s : ByteArray) (w : World) (h : Cur w p s i) (hi : i ≤ s.size) (hs : s.size ≤ 2000) :
    Calls Tryd.prog 87 #[.pointer (some ⟨p, 0, none⟩)] w (Moved p s w (i + nl ((bytes s).drop i)) (.string (s.extract i (i + nl ((bytes s).drop i))))) := by
  obtain ⟨E, hE⟩ : ∃ E, E = i + nl ((bytes s).drop i) := ⟨_, rfl⟩
  rw [← hE]
  obtain ⟨c0, c1, _⟩ := h.cell
  have H := Lib.hid h; have HE := Lib.hid hE
  have HLL := Lib.hid (bytes_len s)
  clear h hE
  go_enter Tryd.func87, Tryd.ntmps87
  go_wp2_with fail
  clear c0 c1
  go_loopg [4] (s.size - i) (fun g v wr => ∃ j : Nat, i ≤ j ∧ j ≤ s.size ∧ g = s.size - j ∧ Cur wr p s j ∧ w.grownBy wr (some p) ∧ j + nl ((bytes s).drop j) = E)
  case atStart => exact ⟨i, Nat.le_refl _, hi, rfl, H.out, grow_refl _ _, HE.out.symm⟩
  case round =>
    obtain ⟨j, hij, hj, hg, hC, hG, hB⟩ := hrel
    have HC := Lib.hid hC; have HG := Lib.hid hG; have HB := Lib.hid hB; have HGK := Lib.hid hg
    clear hC hG hB hg
    have hpl := pb_lt s j
    have hon : dgN (pb s j) = true ∨ pb s j = 46 → j < s.size ∧ j + 1 + nl ((bytes s).drop (j + 1)) = E := by
      intro h
      have hlt : j < s.size := by
        by_cases hlt : j < s.size
        · exact hlt
        · rw [pb_out s j (by omega)] at h; exact absurd h (by decide)
      refine ⟨hlt, ?_⟩
      rw [← HB.out, drop_cons hlt, nl_on (h.imp id (ofNat_eq s j 46 (by decide)).2)]; omega
    have hex := ex_le s j
    have hoff : ¬ (dgN (pb s j) = true ∨ pb s j = 46) → (ex s j = 0 → E = j) ∧ (0 < ex s j → j + ex s j < s.size ∧ j + ex s j + nl ((bytes s).drop (j + ex s j)) = E) := by
      intro h
      by_cases hlt : j < s.size
      · have := nl_step s j hlt h
        have hB := HB.out
        refine ⟨fun h0 => ?_, fun h0 => ⟨hex.2 h0, ?_⟩⟩
        · rw [if_pos h0] at this; omega
        · rw [if_neg (by omega)] at this; omega
      · have e : nl ((bytes s).drop j) = 0 := by rw [List.drop_eq_nil_of_le (by rw [HLL.out]; omega)]; rfl
        have hB := HB.out
        refine ⟨fun _ => by omega, fun h0 => ?_⟩
        have := hex.2 h0; omega
    obtain ⟨k, hk⟩ : ∃ k, k = ex s j := ⟨_, rfl⟩
    obtain ⟨x, hx⟩ : ∃ x, x = pb s j := ⟨_, rfl⟩
    rw [← hx] at hpl hon
    rw [← hk, ← hx] at hoff
    have HON := Lib.hid hon; have HOFF := Lib.hid hoff
    have HP := Lib.hid (show ∀ W : World, Cur W p s j → w.grownBy W (some p) → Calls Tryd.prog 82 #[.pointer (some ⟨p, 0, none⟩), .int .i64 (0 : Nat)] W fun e w' => e = .returned (.int .u8 x) ∧ Cur w' p s j ∧ w.grownBy w' (some p) from fun W h1 h2 => by
      have := peek_at p j 0 s w W h1 h2 hs (by omega)
      rwa [Nat.add_zero, ← hx] at this)
    have HX := Lib.hid (show ∀ W : World, Cur W p s j → w.grownBy W (some p) → Calls Tryd.prog 109 #[.pointer (some ⟨p, 0, none⟩)] W fun e w' => e = .returned (.int .i64 k) ∧ Cur w' p s j ∧ w.grownBy w' (some p) from fun W h1 h2 => by
      have := exponent_any p j s w W h1 h2 hj hs
      rwa [← hk] at this)
    clear hx hon hoff hex
    have hk2 : k ≤ 2 := by have := (ex_le s j).1; omega
    clear hk
    go_wp2_with fail
    refine (HP.out _ HC.out HG.out).mono ?_; rintro e w1 ⟨rfl, hC1, hG1⟩
    have HC1 := Lib.hid hC1; have HG1 := Lib.hid hG1
    obtain ⟨c0, c1, f1⟩ := hC1.cell
    clear hC1 hG1 HC HG
    go_wp2_with fail
    refine (digit_any x _ hpl).mono ?_; rintro e w' ⟨rfl, rfl⟩
    cases hd : dgN x with
    | true =>
      go_wp2_with fail
      go_roundg (s.size - (j + 1))
      case measure => have := HGK.out; have := (HON.out (.inl hd)).1; omega
      case rel =>
        obtain ⟨b1, b2⟩ := HON.out (.inl hd)
        obtain ⟨a1, a2⟩ := cur_step (n := 0) (z := (j : Int) + 1) (j := j + 1) HC1.out HG1.out (by omega)
        exact ⟨j + 1, by omega, by omega, rfl, a1, a2, b2⟩
    | false =>
      by_cases h46 : x = 46
      · have hz : ((x : Int) == 46) = true := by simp; omega
        have H46 := Lib.hid h46
        clear h46
        go_wp2_with fail
        go_roundg (s.size - (j + 1))
        case measure => have := HGK.out; have := (HON.out (.inr H46.out)).1; omega
        case rel =>
          obtain ⟨b1, b2⟩ := HON.out (.inr H46.out)
          obtain ⟨a1, a2⟩ := cur_step (n := 0) (z := (j : Int) + 1) (j := j + 1) HC1.out HG1.out (by omega)
          exact ⟨j + 1, by omega, by omega, rfl, a1, a2, b2⟩
      · have hz : ((x : Int) == 46) = false := by simp; omega
        obtain ⟨o1, o2⟩ := HOFF.out (by rw [hd]; simp [h46])
        have O1 := Lib.hid o1; have O2 := Lib.hid o2
        clear h46 o1 o2 hd
        go_wp2_with fail
        refine (HX.out _ HC1.out HG1.out).mono ?_; rintro e w2 ⟨rfl, hC2, hG2⟩
        have HC2 := Lib.hid hC2; have HG2 := Lib.hid hG2
        clear c0 c1 f1
        obtain ⟨c0, c1, f1⟩ := hC2.cell
        clear hC2 hG2 HC1 HG1
        by_cases hk0 : 0 < k
        · have hkk : decide ((0 : Int) < k) = true := decide_eq_true (by omega)
          have hkz : (0 : Int) < k := by omega
          obtain ⟨b1, b2⟩ := O2.out (by omega)
          have B2 := Lib.hid b2
          have HCD := Lib.hid (show Cur w2.drew p s j from HC2.out); have HGD := Lib.hid (grow_trans HG2.out (show w2.grownBy w2.drew (some p) from ⟨rfl, rfl, rfl, Nat.le_refl _, fun _ _ _ => rfl⟩))
          have q3 : (j : Int) + k < s.size := by omega
          have q4 : IntKind.i64.wrap ((j : Int) + k) = (j : Int) + k := by rw [IntKind.wrap_i64]; omega
          clear b2
          go_wp2_with fail
          go_region_with ((go_at_call 109; refine (HX.out _ HCD.out HGD.out).mono ?_; rintro e w3 ⟨rfl, hC3, hG3⟩; obtain ⟨e0, e1, g1⟩ := hC3.cell; have HC3 := Lib.hid hC3; have HG3 := Lib.hid hG3; clear hC3 hG3))
          all_goals
            go_wp2_with fail
            go_roundg (s.size - (j + k))
            case measure => have := HGK.out; omega
            case rel =>
              obtain ⟨a1, a2⟩ := cur_step (n := 0) (z := (j : Int) + k) (j := j + k) HC3.out HG3.out (by omega)
              exact ⟨j + k, by omega, by omega, rfl, a1, a2, B2.out⟩
        · have hkk : decide ((0 : Int) < k) = false := decide_eq_false (by omega)
          have hkz : ¬ (0 : Int) < k := by omega
          have HEJ := Lib.hid (O1.out (by omega))
          have q1 : (i : Int) ≤ j := by omega
          have q2 : (j : Int) ≤ s.size := by omega
          go_wp2_with fail
          go_quiet (fail)
          go_wp2_with fail
          go_ret
          rw [HEJ.out]
          exact ⟨rfl, HC2.out, grow_trans HG2.out (grow_drewN _ _ _)⟩
end Go.Proofs.YtgopajddloeclaaDoor
