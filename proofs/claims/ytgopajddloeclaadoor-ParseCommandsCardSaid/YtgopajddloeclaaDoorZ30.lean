/- Contracts and mathematics: QSNext. -/
import Derived.Test.YtgopajddloeclaaDoorZ27
import Derived.Test.YtgopajddloeclaaDoorZ28
import Derived.Test.YtgopajddloeclaaDoorZ29
import Derived.Test.YtgopajddloeclaaDoorZ9
namespace Go.Proofs.YtgopajddloeclaaDoor
open Go.RowKit Go.Lib Go.WideShapes

/-- What Next answers. -/
def NextOut (n i : Nat) (w : World) (R : Option (UInt8 × Bs × Bs)) (e : Ending) (w' : World) : Prop := Below w.heap.size w w' ∧ match R with
  | some p => e = .returned (.agg #[.int .u8 (p.1.toNat : Nat), .string ⟨p.2.1.toArray⟩, .int .i64 i, .int .i64 ((n - p.2.2.length : Nat) : Int)])
  | none => ∃ (k : Int) (t : ByteArray) (z : Int), e = .returned (.agg #[.int .u8 k, .string t, .int .i64 i, .int .i64 z]) ∧ z < 0
theorem token_at9 (b : UInt8) (r : Bs) : token (b :: r) = (if (b = 101 ∨ b = 69) ∧ r.head? = some 39 then (qt 39 true r.tail).map fun p => (115, p.1, p.2)
    else if bw b then some (119, ((b :: r).takeWhile inw).map low, (b :: r).dropWhile inw)
    else if b = 34 then (qt 34 false r).bind fun p => if p.1 = [] then none else some (113, p.1, p.2)
    else if b = 39 then (qt 39 false r).map fun p => (115, p.1, p.2)
    else if dg b ∨ b = 46 ∧ dg (r.headD 0) then some (110, (b :: r).take (nl (b :: r)), (b :: r).drop (nl (b :: r)))
    else match tagOf (b :: r) with
      | some t => (find t ((b :: r).drop t.length)).map fun n => (115, ((b :: r).drop t.length).take n, (b :: r).drop (t.length + n + t.length))
      | none => some (111, [b], r) : Option (UInt8 × Bs × Bs)) := rfl
theorem while_parts (p : UInt8 → Bool) (l : Bs) (i k : Nat) (hik : i ≤ k) (h : (l.drop i).takeWhile p = (l.drop i).take (k - i) ++ (l.drop k).takeWhile p) (hs : (l.drop k).takeWhile p = []) : (l.drop i).takeWhile p = (l.drop i).take (k - i) ∧ (l.drop i).dropWhile p = l.drop k := by
  rw [hs, List.append_nil] at h
  refine ⟨h, ?_⟩
  have h1 : (l.drop i).takeWhile p ++ (l.drop i).dropWhile p = l.drop i := List.takeWhile_append_dropWhile
  rw [h] at h1
  have h2 : (l.drop i).take (k - i) ++ (l.drop i).drop (k - i) = l.drop i := List.take_append_drop _ _
  have h3 := List.append_cancel_left (h1.trans h2.symm)
  rw [h3, List.drop_drop, show i + (k - i) = k by omega]
theorem while_more (p : UInt8 → Bool) {l : Bs} {i k : Nat} {c : UInt8} (hik : i ≤ k) (hc : l[k]? = some c) (hp : p c = true) (h : (l.drop i).takeWhile p = (l.drop i).take (k - i) ++ (l.drop k).takeWhile p) : (l.drop i).takeWhile p = (l.drop i).take (k + 1 - i) ++ (l.drop (k + 1)).takeWhile p := by
  obtain ⟨hlt, hx⟩ := List.getElem?_eq_some_iff.1 hc
  have ht : (l.drop i).take (k + 1 - i) = (l.drop i).take (k - i) ++ [c] := by
    rw [show k + 1 - i = (k - i) + 1 by omega, List.take_add_one, List.getElem?_drop, show i + (k - i) = k by omega, hc]; rfl
  rw [h, List.drop_eq_getElem_cons hlt, hx, List.takeWhile_cons, if_pos hp, ht]
  simp
theorem qb_cut (s : ByteArray) (i j : Nat) : bytes (s.extract i j) = ((bytes s).drop i).take (j - i) := by simp [bytes]
theorem qb_eq {s : ByteArray} {l : Bs} (h : bytes s = l) : s = ⟨l.toArray⟩ := by rw [← h]
set_option maxRecDepth 100000 in
set_option maxHeartbeats 64000000 in
theorem qnext_any (s : ByteArray) (i : Nat) (w : World) (hs : s.size ≤ 100000) (hi : i < s.size) :
    Calls Tryd.prog 68 #[.string s, .int .i64 i] w (NextOut s.size i w (token ((bytes s).drop i))) := by
  obtain ⟨R, hR⟩ : ∃ R, R = token ((bytes s).drop i) := ⟨_, rfl⟩
  rw [← hR]
  obtain ⟨a, ha⟩ : ∃ z, z = s[i] := ⟨_, rfl⟩
  obtain ⟨b, hbb⟩ : ∃ z, z = byteAt (bytes s) (i + 1) := ⟨_, rfl⟩
  have HA := Lib.hid ha
  have hd := drop_at hi
  rw [← ha] at hd
  have HR := Lib.hid (show R = token (a :: (bytes s).drop (i + 1)) from by rw [hR, hd])
  have HD := Lib.hid hd
  have HBB := Lib.hid hbb
  obtain ⟨W0, hW0⟩ : ∃ x, x = w.alloc (.cells #[.int .u8 0, .string { data := #[] }, .int .i64 0, .int .i64 0] 66) := ⟨_, rfl⟩
  have HBW := Lib.hid (show ∀ x0 x1 x2 x3, Below w.heap.size w (w.alloc (.cells #[x0, x1, x2, x3] 66)) from fun _ _ _ _ => (Below.refl _ _).alloc (Nat.le_refl _) _)
  have HAT := Lib.hid (show Calls Tryd.prog 94 #[.string s, .int .i64 ((i : Int) + 1)] (w.alloc (.cells #[.int .u8 0, .string { data := #[] }, .int .i64 0, .int .i64 0] 66)) fun e w' => e = .returned (.int .u8 (b.toNat : Nat)) ∧ (w.alloc (.cells #[.int .u8 0, .string { data := #[] }, .int .i64 0, .int .i64 0] 66)) = w' from by rw [hbb]; exact qat_any s (i + 1) _ (by omega))
  have HF := Lib.hid (show Calls Tryd.prog 97 #[.int .u8 (s[i].toNat : Nat)] (w.alloc (.cells #[.int .u8 0, .string { data := #[] }, .int .i64 0, .int .i64 0] 66)) fun e w' => e = .returned (.bool (bw a)) ∧ (w.alloc (.cells #[.int .u8 0, .string { data := #[] }, .int .i64 0, .int .i64 0] 66)) = w' from by rw [ha]; exact qfirst_any _ _)
  have HDA := Lib.hid (show Calls Tryd.prog 98 #[.int .u8 (s[i].toNat : Nat)] (w.alloc (.cells #[.int .u8 0, .string { data := #[] }, .int .i64 0, .int .i64 0] 66)) fun e w' => e = .returned (.bool (dg a)) ∧ (w.alloc (.cells #[.int .u8 0, .string { data := #[] }, .int .i64 0, .int .i64 0] 66)) = w' from by rw [ha]; exact qdigit_any _ _)
  have HDB := Lib.hid (qdigit_any b (w.alloc (.cells #[.int .u8 0, .string { data := #[] }, .int .i64 0, .int .i64 0] 66)))
  have HHB := Lib.hid (show ((bytes s).drop (i + 1)).headD 0 = b from by rw [headD_at, hbb])
  have hi' : (i : Int) < s.size := by omega
  clear hR ha hbb hd hW0
  go_enter Tryd.func68, Tryd.ntmps68
  by_cases hq39 : (a = 101 ∨ a = 69) ∧ b = 39
  · obtain ⟨hE, hb⟩ := hq39
    have hnx := next_at (b := 39) (by decide) (HBB.out.symm.trans hb)
    rw [bytes_len] at hnx
    have HT := Lib.hid (show R = (qt 39 true ((bytes s).drop (i + 2))).map fun p => (115, p.1, p.2) from by
      rw [HR.out, token_at9, if_pos ⟨hE, by rw [hnx.1]; rfl⟩, tail_at])
    have hi2 : i + 2 ≤ s.size := by omega
    have y39 : ((b.toNat : Int) == 39) = true := by rw [hb]; rfl
    have HEE := Lib.hid hE
    clear hE hb hnx
    rcases HEE.out with he | he
    · have x101 : ((s[i].toNat : Int) == 101) = true := by rw [← HA.out, he]; rfl
      have x69 : ((s[i].toNat : Int) == 69) = false := by rw [← HA.out, he]; rfl
      have x39 : ((s[i].toNat : Int) == 39) = false := by rw [← HA.out, he]; rfl
      have x34 : ((s[i].toNat : Int) == 34) = false := by rw [← HA.out, he]; rfl
      have x46 : ((s[i].toNat : Int) == 46) = false := by rw [← HA.out, he]; rfl
      have x36 : ((s[i].toNat : Int) == 36) = false := by rw [← HA.out, he]; rfl
      clear he
      have HQ := Lib.hid (show Calls Tryd.prog 96 #[.string s, .int .i64 ((i : Int) + 2), .int .u8 39, .bool true] (w.alloc (.cells #[.int .u8 0, .string { data := #[] }, .int .i64 0, .int .i64 0] 66)) _ from qquoted_any s (i + 2) 39 true _ (by omega) hi2 (by decide) (by decide))
      cases hq : qt 39 true ((bytes s).drop (i + 2)) with
      | none =>
        have HRT := Lib.hid (show R = none from by rw [HT.out, hq]; rfl)
        rw [hq] at HQ
        clear hq
        go_wp2_with fail
        refine HAT.out.mono ?_; rintro e w1 ⟨rfl, rfl⟩
        go_wp2_with fail
        refine HQ.out.mono ?_; rintro e w1 ⟨rfl, rfl⟩
        unfold qtV
        go_wp2_with fail
        simp [bodyPost, results, Tryd.results68, go_sem]
        rw [HRT.out]
        exact ⟨HBW.out _ _ _ _, _, _, _, rfl, by decide⟩
      | some p =>
        obtain ⟨t, r⟩ := p
        have HRT := Lib.hid (show R = some (115, t, r) from by rw [HT.out, hq]; rfl)
        rw [hq] at HQ
        clear hq
        go_wp2_with fail
        refine HAT.out.mono ?_; rintro e w1 ⟨rfl, rfl⟩
        go_wp2_with fail
        refine HQ.out.mono ?_; rintro e w1 ⟨rfl, rfl⟩
        unfold qtV
        go_wp2_with fail
        simp [bodyPost, results, Tryd.results68, go_sem]
        rw [HRT.out]
        exact ⟨HBW.out _ _ _ _, rfl⟩
    · have x101 : ((s[i].toNat : Int) == 101) = false := by rw [← HA.out, he]; rfl
      have x69 : ((s[i].toNat : Int) == 69) = true := by rw [← HA.out, he]; rfl
      have x39 : ((s[i].toNat : Int) == 39) = false := by rw [← HA.out, he]; rfl
      have x34 : ((s[i].toNat : Int) == 34) = false := by rw [← HA.out, he]; rfl
      have x46 : ((s[i].toNat : Int) == 46) = false := by rw [← HA.out, he]; rfl
      have x36 : ((s[i].toNat : Int) == 36) = false := by rw [← HA.out, he]; rfl
      clear he
      have HQ := Lib.hid (show Calls Tryd.prog 96 #[.string s, .int .i64 ((i : Int) + 2), .int .u8 39, .bool true] (w.alloc (.cells #[.int .u8 0, .string { data := #[] }, .int .i64 0, .int .i64 0] 66)) _ from qquoted_any s (i + 2) 39 true _ (by omega) hi2 (by decide) (by decide))
      cases hq : qt 39 true ((bytes s).drop (i + 2)) with
      | none =>
        have HRT := Lib.hid (show R = none from by rw [HT.out, hq]; rfl)
        rw [hq] at HQ
        clear hq
        go_wp2_with fail
        refine HAT.out.mono ?_; rintro e w1 ⟨rfl, rfl⟩
        go_wp2_with fail
        refine HQ.out.mono ?_; rintro e w1 ⟨rfl, rfl⟩
        unfold qtV
        go_wp2_with fail
        simp [bodyPost, results, Tryd.results68, go_sem]
        rw [HRT.out]
        exact ⟨HBW.out _ _ _ _, _, _, _, rfl, by decide⟩
      | some p =>
        obtain ⟨t, r⟩ := p
        have HRT := Lib.hid (show R = some (115, t, r) from by rw [HT.out, hq]; rfl)
        rw [hq] at HQ
        clear hq
        go_wp2_with fail
        refine HAT.out.mono ?_; rintro e w1 ⟨rfl, rfl⟩
        go_wp2_with fail
        refine HQ.out.mono ?_; rintro e w1 ⟨rfl, rfl⟩
        unfold qtV
        go_wp2_with fail
        simp [bodyPost, results, Tryd.results68, go_sem]
        rw [HRT.out]
        exact ⟨HBW.out _ _ _ _, rfl⟩
  · have HNQ := Lib.hid (show ¬ ((a = 101 ∨ a = 69) ∧ ((bytes s).drop (i + 1)).head? = some 39) from fun h => by
      apply hq39
      refine ⟨h.1, ?_⟩
      rw [HBB.out]
      unfold byteAt
      rw [← List.head?_drop, h.2]; rfl)
    have HT1 := Lib.hid (HR.out.trans ((token_at9 a _).trans (if_neg HNQ.out)))
    cases hbw : bw a with
    | true =>
      have h39 : ¬ a = 39 := fun e => by rw [e] at hbw; cases hbw
      have h34 : ¬ a = 34 := fun e => by rw [e] at hbw; cases hbw
      have HT := Lib.hid (show R = some (119, (((bytes s).drop i).takeWhile inw).map low, ((bytes s).drop i).dropWhile inw) from by rw [HT1.out, if_pos hbw, HD.out])
      have HIN := Lib.hid (show inw a = true from by unfold inw; rw [hbw]; rfl)
      have x39 : ((s[i].toNat : Int) == 39) = false := by rw [← HA.out, beq_eq_false_iff_ne]; intro e; exact h39 (UInt8.toNat_inj.1 (by show a.toNat = 39; omega))
      have x34 : ((s[i].toNat : Int) == 34) = false := by rw [← HA.out, beq_eq_false_iff_ne]; intro e; exact h34 (UInt8.toNat_inj.1 (by show a.toNat = 34; omega))
      have HBN := Lib.hid hq39
      have HBWA := Lib.hid hbw
      clear h39 h34 hq39
      by_cases h101 : a = 101
      · have hb : ¬ b = 39 := fun e => HBN.out ⟨.inl h101, e⟩
        have x101 : ((s[i].toNat : Int) == 101) = true := by rw [← HA.out, h101]; rfl
        have y39 : ((b.toNat : Int) == 39) = false := by rw [beq_eq_false_iff_ne]; intro e; exact hb (UInt8.toNat_inj.1 (by show b.toNat = 39; omega))
        clear h101 hb hbw
        go_wp2_with fail
        refine HAT.out.mono ?_; rintro e w1 ⟨rfl, rfl⟩
        go_wp2_with fail
        refine HF.out.mono ?_; rintro e w1 ⟨rfl, rfl⟩
        rw [HBWA.out]
        go_wp2_with fail
        go_loopw [13] (fun kv wr => ∃ k : Nat, kv = .int .i64 k ∧ i ≤ k ∧ k ≤ s.size ∧ ((bytes s).drop i).takeWhile inw = ((bytes s).drop i).take (k - i) ++ ((bytes s).drop k).takeWhile inw ∧ wr = (w.alloc (.cells #[.int .u8 0, .string { data := #[] }, .int .i64 0, .int .i64 0] 66))) (fun kv _ => s.size - (RowKit.intOf kv).toNat)
        case atStart => exact ⟨i, rfl, Nat.le_refl _, Nat.le_of_lt hi, by simp, rfl⟩
        case round =>
          obtain ⟨k, rfl, hik, hk, hw, hwr⟩ := hrel
          subst hwr
          have HW := Lib.hid hw
          clear hw
          by_cases hlt : k < s.size
          · have hlt' : (k : Int) < s.size := by omega
            obtain ⟨c, hc⟩ : ∃ z, z = s[k] := ⟨_, rfl⟩
            have HG := Lib.hid (show (bytes s)[k]? = some c from by rw [hc]; exact get_atQ hlt)
            have HFC := Lib.hid (show Calls Tryd.prog 97 #[.int .u8 (s[k].toNat : Nat)] (w.alloc (.cells #[.int .u8 0, .string { data := #[] }, .int .i64 0, .int .i64 0] 66)) fun e w' => e = .returned (.bool (bw c)) ∧ (w.alloc (.cells #[.int .u8 0, .string { data := #[] }, .int .i64 0, .int .i64 0] 66)) = w' from by rw [hc]; exact qfirst_any _ _)
            have HDC := Lib.hid (show Calls Tryd.prog 98 #[.int .u8 (s[k].toNat : Nat)] (w.alloc (.cells #[.int .u8 0, .string { data := #[] }, .int .i64 0, .int .i64 0] 66)) fun e w' => e = .returned (.bool (dg c)) ∧ (w.alloc (.cells #[.int .u8 0, .string { data := #[] }, .int .i64 0, .int .i64 0] 66)) = w' from by rw [hc]; exact qdigit_any _ _)
            have HCC := Lib.hid hc
            clear hc
            cases hbc : bw c with
            | true =>
              have HO := Lib.hid (while_more inw hik HG.out (by unfold inw; rw [hbc]; rfl) HW.out)
              go_wp2_with fail
              refine HFC.out.mono ?_; rintro e w1 ⟨rfl, rfl⟩
              rw [hbc]
              go_wp2_with fail
              go_roundw
              case measure => first | omega | (simp [RowKit.intOf]; omega)
              case rel => exact ⟨k + 1, by go_num, by omega, by omega, HO.out, by first | rfl | trivial⟩
            | false =>
              cases hdc : dg c with
              | true =>
                have HO := Lib.hid (while_more inw hik HG.out (by unfold inw; rw [hdc]; simp) HW.out)
                go_wp2_with fail
                refine HFC.out.mono ?_; rintro e w1 ⟨rfl, rfl⟩
                rw [hbc]
                go_wp2_with fail
                refine HDC.out.mono ?_; rintro e w1 ⟨rfl, rfl⟩
                rw [hdc]
                go_wp2_with fail
                go_roundw
                case measure => first | omega | (simp [RowKit.intOf]; omega)
                case rel => exact ⟨k + 1, by go_num, by omega, by omega, HO.out, by first | rfl | trivial⟩
              | false =>
                by_cases h36 : c = 36
                · have z36 : ((s[k].toNat : Int) == 36) = true := by rw [← HCC.out, h36]; rfl
                  have HO := Lib.hid (while_more inw hik HG.out (by rw [h36]; rfl) HW.out)
                  clear h36
                  go_wp2_with fail
                  refine HFC.out.mono ?_; rintro e w1 ⟨rfl, rfl⟩
                  rw [hbc]
                  go_wp2_with fail
                  refine HDC.out.mono ?_; rintro e w1 ⟨rfl, rfl⟩
                  rw [hdc]
                  go_wp2_with fail
                  go_roundw
                  case measure => first | omega | (simp [RowKit.intOf]; omega)
                  case rel => exact ⟨k + 1, by go_num, by omega, by omega, HO.out, by first | rfl | trivial⟩
                · have z36 : ((s[k].toNat : Int) == 36) = false := by rw [← HCC.out, beq_eq_false_iff_ne]; intro e; exact h36 (UInt8.toNat_inj.1 (by show c.toNat = 36; omega))
                  have HWP := Lib.hid (while_parts inw (bytes s) i k hik HW.out (by
                      have hin : inw c = false := by unfold inw; rw [hbc, hdc, beq_eq_false_iff_ne.2 h36]; rfl
                      obtain ⟨hl9, hx9⟩ := List.getElem?_eq_some_iff.1 HG.out
                      rw [List.drop_eq_getElem_cons hl9, hx9, List.takeWhile_cons, if_neg (by rw [hin]; decide)]))
                  have hki : (i : Int) ≤ k := by omega
                  have hks : (k : Int) ≤ s.size := by omega
                  have HFO := Lib.hid (reffold_wide (s.extract i k) (w.alloc (.cells #[.int .u8 0, .string { data := #[] }, .int .i64 0, .int .i64 0] 66)) (by rw [ByteArray.size_extract]; omega))
                  have HTX := Lib.hid (show (⟨((bytes (s.extract i k)).map low).toArray⟩ : ByteArray) = ⟨((((bytes s).drop i).takeWhile inw).map low).toArray⟩ from by rw [qb_cut, HWP.out.1])
                  have HTO := Lib.hid (show ((s.size - (((bytes s).drop i).dropWhile inw).length : Nat) : Int) = (k : Int) from by rw [HWP.out.2, List.length_drop, bytes_len]; omega)
                  clear h36
                  go_wp2_with fail
                  refine HFC.out.mono ?_; rintro e w1 ⟨rfl, rfl⟩
                  rw [hbc]
                  go_wp2_with fail
                  refine HDC.out.mono ?_; rintro e w1 ⟨rfl, rfl⟩
                  rw [hdc]
                  go_wp2_with fail
                  refine HFO.out.mono ?_; rintro e w5 ⟨rfl, hb5⟩
                  have hz5 : w.heap.size < (w.alloc (.cells #[.int .u8 0, .string { data := #[] }, .int .i64 0, .int .i64 0] 66)).heap.size := by simp
                  have f0 := (hb5.frozen (p := ⟨w.heap.size, 0, none⟩) hz5)
                  have k0 : w5.cell? ⟨w.heap.size, 0, none⟩ = some (.int .u8 0) := (hb5.cell (p := ⟨w.heap.size, 0, none⟩) hz5).trans (World.cell?_alloc_new _ _ _ _)
                  have k1 : w5.cell? ⟨w.heap.size, 1, none⟩ = some (.string { data := #[] }) := (hb5.cell (p := ⟨w.heap.size, 1, none⟩) hz5).trans (World.cell?_alloc_new _ _ _ _)
                  have k2 : w5.cell? ⟨w.heap.size, 2, none⟩ = some (.int .i64 0) := (hb5.cell (p := ⟨w.heap.size, 2, none⟩) hz5).trans (World.cell?_alloc_new _ _ _ _)
                  have k3 : w5.cell? ⟨w.heap.size, 3, none⟩ = some (.int .i64 0) := (hb5.cell (p := ⟨w.heap.size, 3, none⟩) hz5).trans (World.cell?_alloc_new _ _ _ _)
                  have g : ∀ j, w5.frozen? ⟨w.heap.size, j, none⟩ = false := fun j => (hb5.frozen (p := ⟨w.heap.size, j, none⟩) hz5).trans (by simp [go_sem])
                  have g0 := g 0; have g1 := g 1; have g2 := g 2; have g3 := g 3
                  have HB5 := Lib.hid (show Below w.heap.size w w5 from (HBW.out _ _ _ _).step hb5 (HBW.out _ _ _ _).size)
                  clear hb5 hz5 f0 g
                  go_wp2_with fail
                  simp [bodyPost, results, Tryd.results68, go_sem, k0, k1, k2, k3]
                  rw [HT.out]
                  refine ⟨((((HB5.out.setCell (Nat.le_refl _) _).setCell (Nat.le_refl _) _).setCell (Nat.le_refl _) _).setCell (Nat.le_refl _) _), ?_⟩
                  show _ = Ending.returned (.agg #[.int .u8 119, .string ⟨((((bytes s).drop i).takeWhile inw).map low).toArray⟩, .int .i64 i, .int .i64 ((s.size - (((bytes s).drop i).dropWhile inw).length : Nat) : Int)])
                  rw [← HTX.out, HTO.out]
          · have hge : ¬ (k : Int) < s.size := by omega
            have HWP := Lib.hid (while_parts inw (bytes s) i k hik HW.out (by rw [List.drop_eq_nil_of_le (by rw [bytes_len]; omega)]; rfl))
            have hki : (i : Int) ≤ k := by omega
            have hks : (k : Int) ≤ s.size := by omega
            have HFO := Lib.hid (reffold_wide (s.extract i k) (w.alloc (.cells #[.int .u8 0, .string { data := #[] }, .int .i64 0, .int .i64 0] 66)) (by rw [ByteArray.size_extract]; omega))
            have HTX := Lib.hid (show (⟨((bytes (s.extract i k)).map low).toArray⟩ : ByteArray) = ⟨((((bytes s).drop i).takeWhile inw).map low).toArray⟩ from by rw [qb_cut, HWP.out.1])
            have HTO := Lib.hid (show ((s.size - (((bytes s).drop i).dropWhile inw).length : Nat) : Int) = (k : Int) from by rw [HWP.out.2, List.length_drop, bytes_len]; omega)
            go_wp2_with fail
            refine HFO.out.mono ?_; rintro e w5 ⟨rfl, hb5⟩
            have hz5 : w.heap.size < (w.alloc (.cells #[.int .u8 0, .string { data := #[] }, .int .i64 0, .int .i64 0] 66)).heap.size := by simp
            have f0 := (hb5.frozen (p := ⟨w.heap.size, 0, none⟩) hz5)
            have k0 : w5.cell? ⟨w.heap.size, 0, none⟩ = some (.int .u8 0) := (hb5.cell (p := ⟨w.heap.size, 0, none⟩) hz5).trans (World.cell?_alloc_new _ _ _ _)
            have k1 : w5.cell? ⟨w.heap.size, 1, none⟩ = some (.string { data := #[] }) := (hb5.cell (p := ⟨w.heap.size, 1, none⟩) hz5).trans (World.cell?_alloc_new _ _ _ _)
            have k2 : w5.cell? ⟨w.heap.size, 2, none⟩ = some (.int .i64 0) := (hb5.cell (p := ⟨w.heap.size, 2, none⟩) hz5).trans (World.cell?_alloc_new _ _ _ _)
            have k3 : w5.cell? ⟨w.heap.size, 3, none⟩ = some (.int .i64 0) := (hb5.cell (p := ⟨w.heap.size, 3, none⟩) hz5).trans (World.cell?_alloc_new _ _ _ _)
            have g : ∀ j, w5.frozen? ⟨w.heap.size, j, none⟩ = false := fun j => (hb5.frozen (p := ⟨w.heap.size, j, none⟩) hz5).trans (by simp [go_sem])
            have g0 := g 0; have g1 := g 1; have g2 := g 2; have g3 := g 3
            have HB5 := Lib.hid (show Below w.heap.size w w5 from (HBW.out _ _ _ _).step hb5 (HBW.out _ _ _ _).size)
            clear hb5 hz5 f0 g
            go_wp2_with fail
            simp [bodyPost, results, Tryd.results68, go_sem, k0, k1, k2, k3]
            rw [HT.out]
            refine ⟨((((HB5.out.setCell (Nat.le_refl _) _).setCell (Nat.le_refl _) _).setCell (Nat.le_refl _) _).setCell (Nat.le_refl _) _), ?_⟩
            show _ = Ending.returned (.agg #[.int .u8 119, .string ⟨((((bytes s).drop i).takeWhile inw).map low).toArray⟩, .int .i64 i, .int .i64 ((s.size - (((bytes s).drop i).dropWhile inw).length : Nat) : Int)])
            rw [← HTX.out, HTO.out]
      · have x101 : ((s[i].toNat : Int) == 101) = false := by rw [← HA.out, beq_eq_false_iff_ne]; intro e; exact h101 (UInt8.toNat_inj.1 (by show a.toNat = 101; omega))
        by_cases h69 : a = 69
        · have hb : ¬ b = 39 := fun e => HBN.out ⟨.inr h69, e⟩
          have x69 : ((s[i].toNat : Int) == 69) = true := by rw [← HA.out, h69]; rfl
          have y39 : ((b.toNat : Int) == 39) = false := by rw [beq_eq_false_iff_ne]; intro e; exact hb (UInt8.toNat_inj.1 (by show b.toNat = 39; omega))
          clear h101 h69 hb hbw
          go_wp2_with fail
          refine HAT.out.mono ?_; rintro e w1 ⟨rfl, rfl⟩
          go_wp2_with fail
          refine HF.out.mono ?_; rintro e w1 ⟨rfl, rfl⟩
          rw [HBWA.out]
          go_wp2_with fail
          go_loopw [13] (fun kv wr => ∃ k : Nat, kv = .int .i64 k ∧ i ≤ k ∧ k ≤ s.size ∧ ((bytes s).drop i).takeWhile inw = ((bytes s).drop i).take (k - i) ++ ((bytes s).drop k).takeWhile inw ∧ wr = (w.alloc (.cells #[.int .u8 0, .string { data := #[] }, .int .i64 0, .int .i64 0] 66))) (fun kv _ => s.size - (RowKit.intOf kv).toNat)
          case atStart => exact ⟨i, rfl, Nat.le_refl _, Nat.le_of_lt hi, by simp, rfl⟩
          case round =>
            obtain ⟨k, rfl, hik, hk, hw, hwr⟩ := hrel
            subst hwr
            have HW := Lib.hid hw
            clear hw
            by_cases hlt : k < s.size
            · have hlt' : (k : Int) < s.size := by omega
              obtain ⟨c, hc⟩ : ∃ z, z = s[k] := ⟨_, rfl⟩
              have HG := Lib.hid (show (bytes s)[k]? = some c from by rw [hc]; exact get_atQ hlt)
              have HFC := Lib.hid (show Calls Tryd.prog 97 #[.int .u8 (s[k].toNat : Nat)] (w.alloc (.cells #[.int .u8 0, .string { data := #[] }, .int .i64 0, .int .i64 0] 66)) fun e w' => e = .returned (.bool (bw c)) ∧ (w.alloc (.cells #[.int .u8 0, .string { data := #[] }, .int .i64 0, .int .i64 0] 66)) = w' from by rw [hc]; exact qfirst_any _ _)
              have HDC := Lib.hid (show Calls Tryd.prog 98 #[.int .u8 (s[k].toNat : Nat)] (w.alloc (.cells #[.int .u8 0, .string { data := #[] }, .int .i64 0, .int .i64 0] 66)) fun e w' => e = .returned (.bool (dg c)) ∧ (w.alloc (.cells #[.int .u8 0, .string { data := #[] }, .int .i64 0, .int .i64 0] 66)) = w' from by rw [hc]; exact qdigit_any _ _)
              have HCC := Lib.hid hc
              clear hc
              cases hbc : bw c with
              | true =>
                have HO := Lib.hid (while_more inw hik HG.out (by unfold inw; rw [hbc]; rfl) HW.out)
                go_wp2_with fail
                refine HFC.out.mono ?_; rintro e w1 ⟨rfl, rfl⟩
                rw [hbc]
                go_wp2_with fail
                go_roundw
                case measure => first | omega | (simp [RowKit.intOf]; omega)
                case rel => exact ⟨k + 1, by go_num, by omega, by omega, HO.out, by first | rfl | trivial⟩
              | false =>
                cases hdc : dg c with
                | true =>
                  have HO := Lib.hid (while_more inw hik HG.out (by unfold inw; rw [hdc]; simp) HW.out)
                  go_wp2_with fail
                  refine HFC.out.mono ?_; rintro e w1 ⟨rfl, rfl⟩
                  rw [hbc]
                  go_wp2_with fail
                  refine HDC.out.mono ?_; rintro e w1 ⟨rfl, rfl⟩
                  rw [hdc]
                  go_wp2_with fail
                  go_roundw
                  case measure => first | omega | (simp [RowKit.intOf]; omega)
                  case rel => exact ⟨k + 1, by go_num, by omega, by omega, HO.out, by first | rfl | trivial⟩
                | false =>
                  by_cases h36 : c = 36
                  · have z36 : ((s[k].toNat : Int) == 36) = true := by rw [← HCC.out, h36]; rfl
                    have HO := Lib.hid (while_more inw hik HG.out (by rw [h36]; rfl) HW.out)
                    clear h36
                    go_wp2_with fail
                    refine HFC.out.mono ?_; rintro e w1 ⟨rfl, rfl⟩
                    rw [hbc]
                    go_wp2_with fail
                    refine HDC.out.mono ?_; rintro e w1 ⟨rfl, rfl⟩
                    rw [hdc]
                    go_wp2_with fail
                    go_roundw
                    case measure => first | omega | (simp [RowKit.intOf]; omega)
                    case rel => exact ⟨k + 1, by go_num, by omega, by omega, HO.out, by first | rfl | trivial⟩
                  · have z36 : ((s[k].toNat : Int) == 36) = false := by rw [← HCC.out, beq_eq_false_iff_ne]; intro e; exact h36 (UInt8.toNat_inj.1 (by show c.toNat = 36; omega))
                    have HWP := Lib.hid (while_parts inw (bytes s) i k hik HW.out (by
                        have hin : inw c = false := by unfold inw; rw [hbc, hdc, beq_eq_false_iff_ne.2 h36]; rfl
                        obtain ⟨hl9, hx9⟩ := List.getElem?_eq_some_iff.1 HG.out
                        rw [List.drop_eq_getElem_cons hl9, hx9, List.takeWhile_cons, if_neg (by rw [hin]; decide)]))
                    have hki : (i : Int) ≤ k := by omega
                    have hks : (k : Int) ≤ s.size := by omega
                    have HFO := Lib.hid (reffold_wide (s.extract i k) (w.alloc (.cells #[.int .u8 0, .string { data := #[] }, .int .i64 0, .int .i64 0] 66)) (by rw [ByteArray.size_extract]; omega))
                    have HTX := Lib.hid (show (⟨((bytes (s.extract i k)).map low).toArray⟩ : ByteArray) = ⟨((((bytes s).drop i).takeWhile inw).map low).toArray⟩ from by rw [qb_cut, HWP.out.1])
                    have HTO := Lib.hid (show ((s.size - (((bytes s).drop i).dropWhile inw).length : Nat) : Int) = (k : Int) from by rw [HWP.out.2, List.length_drop, bytes_len]; omega)
                    clear h36
                    go_wp2_with fail
                    refine HFC.out.mono ?_; rintro e w1 ⟨rfl, rfl⟩
                    rw [hbc]
                    go_wp2_with fail
                    refine HDC.out.mono ?_; rintro e w1 ⟨rfl, rfl⟩
                    rw [hdc]
                    go_wp2_with fail
                    refine HFO.out.mono ?_; rintro e w5 ⟨rfl, hb5⟩
                    have hz5 : w.heap.size < (w.alloc (.cells #[.int .u8 0, .string { data := #[] }, .int .i64 0, .int .i64 0] 66)).heap.size := by simp
                    have f0 := (hb5.frozen (p := ⟨w.heap.size, 0, none⟩) hz5)
                    have k0 : w5.cell? ⟨w.heap.size, 0, none⟩ = some (.int .u8 0) := (hb5.cell (p := ⟨w.heap.size, 0, none⟩) hz5).trans (World.cell?_alloc_new _ _ _ _)
                    have k1 : w5.cell? ⟨w.heap.size, 1, none⟩ = some (.string { data := #[] }) := (hb5.cell (p := ⟨w.heap.size, 1, none⟩) hz5).trans (World.cell?_alloc_new _ _ _ _)
                    have k2 : w5.cell? ⟨w.heap.size, 2, none⟩ = some (.int .i64 0) := (hb5.cell (p := ⟨w.heap.size, 2, none⟩) hz5).trans (World.cell?_alloc_new _ _ _ _)
                    have k3 : w5.cell? ⟨w.heap.size, 3, none⟩ = some (.int .i64 0) := (hb5.cell (p := ⟨w.heap.size, 3, none⟩) hz5).trans (World.cell?_alloc_new _ _ _ _)
                    have g : ∀ j, w5.frozen? ⟨w.heap.size, j, none⟩ = false := fun j => (hb5.frozen (p := ⟨w.heap.size, j, none⟩) hz5).trans (by simp [go_sem])
                    have g0 := g 0; have g1 := g 1; have g2 := g 2; have g3 := g 3
                    have HB5 := Lib.hid (show Below w.heap.size w w5 from (HBW.out _ _ _ _).step hb5 (HBW.out _ _ _ _).size)
                    clear hb5 hz5 f0 g
                    go_wp2_with fail
                    simp [bodyPost, results, Tryd.results68, go_sem, k0, k1, k2, k3]
                    rw [HT.out]
                    refine ⟨((((HB5.out.setCell (Nat.le_refl _) _).setCell (Nat.le_refl _) _).setCell (Nat.le_refl _) _).setCell (Nat.le_refl _) _), ?_⟩
                    show _ = Ending.returned (.agg #[.int .u8 119, .string ⟨((((bytes s).drop i).takeWhile inw).map low).toArray⟩, .int .i64 i, .int .i64 ((s.size - (((bytes s).drop i).dropWhile inw).length : Nat) : Int)])
                    rw [← HTX.out, HTO.out]
            · have hge : ¬ (k : Int) < s.size := by omega
              have HWP := Lib.hid (while_parts inw (bytes s) i k hik HW.out (by rw [List.drop_eq_nil_of_le (by rw [bytes_len]; omega)]; rfl))
              have hki : (i : Int) ≤ k := by omega
              have hks : (k : Int) ≤ s.size := by omega
              have HFO := Lib.hid (reffold_wide (s.extract i k) (w.alloc (.cells #[.int .u8 0, .string { data := #[] }, .int .i64 0, .int .i64 0] 66)) (by rw [ByteArray.size_extract]; omega))
              have HTX := Lib.hid (show (⟨((bytes (s.extract i k)).map low).toArray⟩ : ByteArray) = ⟨((((bytes s).drop i).takeWhile inw).map low).toArray⟩ from by rw [qb_cut, HWP.out.1])
              have HTO := Lib.hid (show ((s.size - (((bytes s).drop i).dropWhile inw).length : Nat) : Int) = (k : Int) from by rw [HWP.out.2, List.length_drop, bytes_len]; omega)
              go_wp2_with fail
              refine HFO.out.mono ?_; rintro e w5 ⟨rfl, hb5⟩
              have hz5 : w.heap.size < (w.alloc (.cells #[.int .u8 0, .string { data := #[] }, .int .i64 0, .int .i64 0] 66)).heap.size := by simp
              have f0 := (hb5.frozen (p := ⟨w.heap.size, 0, none⟩) hz5)
              have k0 : w5.cell? ⟨w.heap.size, 0, none⟩ = some (.int .u8 0) := (hb5.cell (p := ⟨w.heap.size, 0, none⟩) hz5).trans (World.cell?_alloc_new _ _ _ _)
              have k1 : w5.cell? ⟨w.heap.size, 1, none⟩ = some (.string { data := #[] }) := (hb5.cell (p := ⟨w.heap.size, 1, none⟩) hz5).trans (World.cell?_alloc_new _ _ _ _)
              have k2 : w5.cell? ⟨w.heap.size, 2, none⟩ = some (.int .i64 0) := (hb5.cell (p := ⟨w.heap.size, 2, none⟩) hz5).trans (World.cell?_alloc_new _ _ _ _)
              have k3 : w5.cell? ⟨w.heap.size, 3, none⟩ = some (.int .i64 0) := (hb5.cell (p := ⟨w.heap.size, 3, none⟩) hz5).trans (World.cell?_alloc_new _ _ _ _)
              have g : ∀ j, w5.frozen? ⟨w.heap.size, j, none⟩ = false := fun j => (hb5.frozen (p := ⟨w.heap.size, j, none⟩) hz5).trans (by simp [go_sem])
              have g0 := g 0; have g1 := g 1; have g2 := g 2; have g3 := g 3
              have HB5 := Lib.hid (show Below w.heap.size w w5 from (HBW.out _ _ _ _).step hb5 (HBW.out _ _ _ _).size)
              clear hb5 hz5 f0 g
              go_wp2_with fail
              simp [bodyPost, results, Tryd.results68, go_sem, k0, k1, k2, k3]
              rw [HT.out]
              refine ⟨((((HB5.out.setCell (Nat.le_refl _) _).setCell (Nat.le_refl _) _).setCell (Nat.le_refl _) _).setCell (Nat.le_refl _) _), ?_⟩
              show _ = Ending.returned (.agg #[.int .u8 119, .string ⟨((((bytes s).drop i).takeWhile inw).map low).toArray⟩, .int .i64 i, .int .i64 ((s.size - (((bytes s).drop i).dropWhile inw).length : Nat) : Int)])
              rw [← HTX.out, HTO.out]
        · have x69 : ((s[i].toNat : Int) == 69) = false := by rw [← HA.out, beq_eq_false_iff_ne]; intro e; exact h69 (UInt8.toNat_inj.1 (by show a.toNat = 69; omega))
          clear h101 h69 hbw
          go_wp2_with fail
          refine HAT.out.mono ?_; rintro e w1 ⟨rfl, rfl⟩
          go_wp2_with fail
          refine HF.out.mono ?_; rintro e w1 ⟨rfl, rfl⟩
          rw [HBWA.out]
          go_wp2_with fail
          go_loopw [13] (fun kv wr => ∃ k : Nat, kv = .int .i64 k ∧ i ≤ k ∧ k ≤ s.size ∧ ((bytes s).drop i).takeWhile inw = ((bytes s).drop i).take (k - i) ++ ((bytes s).drop k).takeWhile inw ∧ wr = (w.alloc (.cells #[.int .u8 0, .string { data := #[] }, .int .i64 0, .int .i64 0] 66))) (fun kv _ => s.size - (RowKit.intOf kv).toNat)
          case atStart => exact ⟨i, rfl, Nat.le_refl _, Nat.le_of_lt hi, by simp, rfl⟩
          case round =>
            obtain ⟨k, rfl, hik, hk, hw, hwr⟩ := hrel
            subst hwr
            have HW := Lib.hid hw
            clear hw
            by_cases hlt : k < s.size
            · have hlt' : (k : Int) < s.size := by omega
              obtain ⟨c, hc⟩ : ∃ z, z = s[k] := ⟨_, rfl⟩
              have HG := Lib.hid (show (bytes s)[k]? = some c from by rw [hc]; exact get_atQ hlt)
              have HFC := Lib.hid (show Calls Tryd.prog 97 #[.int .u8 (s[k].toNat : Nat)] (w.alloc (.cells #[.int .u8 0, .string { data := #[] }, .int .i64 0, .int .i64 0] 66)) fun e w' => e = .returned (.bool (bw c)) ∧ (w.alloc (.cells #[.int .u8 0, .string { data := #[] }, .int .i64 0, .int .i64 0] 66)) = w' from by rw [hc]; exact qfirst_any _ _)
              have HDC := Lib.hid (show Calls Tryd.prog 98 #[.int .u8 (s[k].toNat : Nat)] (w.alloc (.cells #[.int .u8 0, .string { data := #[] }, .int .i64 0, .int .i64 0] 66)) fun e w' => e = .returned (.bool (dg c)) ∧ (w.alloc (.cells #[.int .u8 0, .string { data := #[] }, .int .i64 0, .int .i64 0] 66)) = w' from by rw [hc]; exact qdigit_any _ _)
              have HCC := Lib.hid hc
              clear hc
              cases hbc : bw c with
              | true =>
                have HO := Lib.hid (while_more inw hik HG.out (by unfold inw; rw [hbc]; rfl) HW.out)
                go_wp2_with fail
                refine HFC.out.mono ?_; rintro e w1 ⟨rfl, rfl⟩
                rw [hbc]
                go_wp2_with fail
                go_roundw
                case measure => first | omega | (simp [RowKit.intOf]; omega)
                case rel => exact ⟨k + 1, by go_num, by omega, by omega, HO.out, by first | rfl | trivial⟩
              | false =>
                cases hdc : dg c with
                | true =>
                  have HO := Lib.hid (while_more inw hik HG.out (by unfold inw; rw [hdc]; simp) HW.out)
                  go_wp2_with fail
                  refine HFC.out.mono ?_; rintro e w1 ⟨rfl, rfl⟩
                  rw [hbc]
                  go_wp2_with fail
                  refine HDC.out.mono ?_; rintro e w1 ⟨rfl, rfl⟩
                  rw [hdc]
                  go_wp2_with fail
                  go_roundw
                  case measure => first | omega | (simp [RowKit.intOf]; omega)
                  case rel => exact ⟨k + 1, by go_num, by omega, by omega, HO.out, by first | rfl | trivial⟩
                | false =>
                  by_cases h36 : c = 36
                  · have z36 : ((s[k].toNat : Int) == 36) = true := by rw [← HCC.out, h36]; rfl
                    have HO := Lib.hid (while_more inw hik HG.out (by rw [h36]; rfl) HW.out)
                    clear h36
                    go_wp2_with fail
                    refine HFC.out.mono ?_; rintro e w1 ⟨rfl, rfl⟩
                    rw [hbc]
                    go_wp2_with fail
                    refine HDC.out.mono ?_; rintro e w1 ⟨rfl, rfl⟩
                    rw [hdc]
                    go_wp2_with fail
                    go_roundw
                    case measure => first | omega | (simp [RowKit.intOf]; omega)
                    case rel => exact ⟨k + 1, by go_num, by omega, by omega, HO.out, by first | rfl | trivial⟩
                  · have z36 : ((s[k].toNat : Int) == 36) = false := by rw [← HCC.out, beq_eq_false_iff_ne]; intro e; exact h36 (UInt8.toNat_inj.1 (by show c.toNat = 36; omega))
                    have HWP := Lib.hid (while_parts inw (bytes s) i k hik HW.out (by
                        have hin : inw c = false := by unfold inw; rw [hbc, hdc, beq_eq_false_iff_ne.2 h36]; rfl
                        obtain ⟨hl9, hx9⟩ := List.getElem?_eq_some_iff.1 HG.out
                        rw [List.drop_eq_getElem_cons hl9, hx9, List.takeWhile_cons, if_neg (by rw [hin]; decide)]))
                    have hki : (i : Int) ≤ k := by omega
                    have hks : (k : Int) ≤ s.size := by omega
                    have HFO := Lib.hid (reffold_wide (s.extract i k) (w.alloc (.cells #[.int .u8 0, .string { data := #[] }, .int .i64 0, .int .i64 0] 66)) (by rw [ByteArray.size_extract]; omega))
                    have HTX := Lib.hid (show (⟨((bytes (s.extract i k)).map low).toArray⟩ : ByteArray) = ⟨((((bytes s).drop i).takeWhile inw).map low).toArray⟩ from by rw [qb_cut, HWP.out.1])
                    have HTO := Lib.hid (show ((s.size - (((bytes s).drop i).dropWhile inw).length : Nat) : Int) = (k : Int) from by rw [HWP.out.2, List.length_drop, bytes_len]; omega)
                    clear h36
                    go_wp2_with fail
                    refine HFC.out.mono ?_; rintro e w1 ⟨rfl, rfl⟩
                    rw [hbc]
                    go_wp2_with fail
                    refine HDC.out.mono ?_; rintro e w1 ⟨rfl, rfl⟩
                    rw [hdc]
                    go_wp2_with fail
                    refine HFO.out.mono ?_; rintro e w5 ⟨rfl, hb5⟩
                    have hz5 : w.heap.size < (w.alloc (.cells #[.int .u8 0, .string { data := #[] }, .int .i64 0, .int .i64 0] 66)).heap.size := by simp
                    have f0 := (hb5.frozen (p := ⟨w.heap.size, 0, none⟩) hz5)
                    have k0 : w5.cell? ⟨w.heap.size, 0, none⟩ = some (.int .u8 0) := (hb5.cell (p := ⟨w.heap.size, 0, none⟩) hz5).trans (World.cell?_alloc_new _ _ _ _)
                    have k1 : w5.cell? ⟨w.heap.size, 1, none⟩ = some (.string { data := #[] }) := (hb5.cell (p := ⟨w.heap.size, 1, none⟩) hz5).trans (World.cell?_alloc_new _ _ _ _)
                    have k2 : w5.cell? ⟨w.heap.size, 2, none⟩ = some (.int .i64 0) := (hb5.cell (p := ⟨w.heap.size, 2, none⟩) hz5).trans (World.cell?_alloc_new _ _ _ _)
                    have k3 : w5.cell? ⟨w.heap.size, 3, none⟩ = some (.int .i64 0) := (hb5.cell (p := ⟨w.heap.size, 3, none⟩) hz5).trans (World.cell?_alloc_new _ _ _ _)
                    have g : ∀ j, w5.frozen? ⟨w.heap.size, j, none⟩ = false := fun j => (hb5.frozen (p := ⟨w.heap.size, j, none⟩) hz5).trans (by simp [go_sem])
                    have g0 := g 0; have g1 := g 1; have g2 := g 2; have g3 := g 3
                    have HB5 := Lib.hid (show Below w.heap.size w w5 from (HBW.out _ _ _ _).step hb5 (HBW.out _ _ _ _).size)
                    clear hb5 hz5 f0 g
                    go_wp2_with fail
                    simp [bodyPost, results, Tryd.results68, go_sem, k0, k1, k2, k3]
                    rw [HT.out]
                    refine ⟨((((HB5.out.setCell (Nat.le_refl _) _).setCell (Nat.le_refl _) _).setCell (Nat.le_refl _) _).setCell (Nat.le_refl _) _), ?_⟩
                    show _ = Ending.returned (.agg #[.int .u8 119, .string ⟨((((bytes s).drop i).takeWhile inw).map low).toArray⟩, .int .i64 i, .int .i64 ((s.size - (((bytes s).drop i).dropWhile inw).length : Nat) : Int)])
                    rw [← HTX.out, HTO.out]
            · have hge : ¬ (k : Int) < s.size := by omega
              have HWP := Lib.hid (while_parts inw (bytes s) i k hik HW.out (by rw [List.drop_eq_nil_of_le (by rw [bytes_len]; omega)]; rfl))
              have hki : (i : Int) ≤ k := by omega
              have hks : (k : Int) ≤ s.size := by omega
              have HFO := Lib.hid (reffold_wide (s.extract i k) (w.alloc (.cells #[.int .u8 0, .string { data := #[] }, .int .i64 0, .int .i64 0] 66)) (by rw [ByteArray.size_extract]; omega))
              have HTX := Lib.hid (show (⟨((bytes (s.extract i k)).map low).toArray⟩ : ByteArray) = ⟨((((bytes s).drop i).takeWhile inw).map low).toArray⟩ from by rw [qb_cut, HWP.out.1])
              have HTO := Lib.hid (show ((s.size - (((bytes s).drop i).dropWhile inw).length : Nat) : Int) = (k : Int) from by rw [HWP.out.2, List.length_drop, bytes_len]; omega)
              go_wp2_with fail
              refine HFO.out.mono ?_; rintro e w5 ⟨rfl, hb5⟩
              have hz5 : w.heap.size < (w.alloc (.cells #[.int .u8 0, .string { data := #[] }, .int .i64 0, .int .i64 0] 66)).heap.size := by simp
              have f0 := (hb5.frozen (p := ⟨w.heap.size, 0, none⟩) hz5)
              have k0 : w5.cell? ⟨w.heap.size, 0, none⟩ = some (.int .u8 0) := (hb5.cell (p := ⟨w.heap.size, 0, none⟩) hz5).trans (World.cell?_alloc_new _ _ _ _)
              have k1 : w5.cell? ⟨w.heap.size, 1, none⟩ = some (.string { data := #[] }) := (hb5.cell (p := ⟨w.heap.size, 1, none⟩) hz5).trans (World.cell?_alloc_new _ _ _ _)
              have k2 : w5.cell? ⟨w.heap.size, 2, none⟩ = some (.int .i64 0) := (hb5.cell (p := ⟨w.heap.size, 2, none⟩) hz5).trans (World.cell?_alloc_new _ _ _ _)
              have k3 : w5.cell? ⟨w.heap.size, 3, none⟩ = some (.int .i64 0) := (hb5.cell (p := ⟨w.heap.size, 3, none⟩) hz5).trans (World.cell?_alloc_new _ _ _ _)
              have g : ∀ j, w5.frozen? ⟨w.heap.size, j, none⟩ = false := fun j => (hb5.frozen (p := ⟨w.heap.size, j, none⟩) hz5).trans (by simp [go_sem])
              have g0 := g 0; have g1 := g 1; have g2 := g 2; have g3 := g 3
              have HB5 := Lib.hid (show Below w.heap.size w w5 from (HBW.out _ _ _ _).step hb5 (HBW.out _ _ _ _).size)
              clear hb5 hz5 f0 g
              go_wp2_with fail
              simp [bodyPost, results, Tryd.results68, go_sem, k0, k1, k2, k3]
              rw [HT.out]
              refine ⟨((((HB5.out.setCell (Nat.le_refl _) _).setCell (Nat.le_refl _) _).setCell (Nat.le_refl _) _).setCell (Nat.le_refl _) _), ?_⟩
              show _ = Ending.returned (.agg #[.int .u8 119, .string ⟨((((bytes s).drop i).takeWhile inw).map low).toArray⟩, .int .i64 i, .int .i64 ((s.size - (((bytes s).drop i).dropWhile inw).length : Nat) : Int)])
              rw [← HTX.out, HTO.out]
    | false =>
      have HT2 := Lib.hid (HT1.out.trans (if_neg (by rw [hbw]; decide)))
      have h101 : ¬ a = 101 := fun e => by rw [e] at hbw; cases hbw
      have h69 : ¬ a = 69 := fun e => by rw [e] at hbw; cases hbw
      have HFF := Lib.hid hbw
      clear hq39
      by_cases h34 : a = 34
      · have he := h34
        have HT := Lib.hid (HT2.out.trans (if_pos h34))
        clear h101 h69 h34 hbw
        have x101 : ((s[i].toNat : Int) == 101) = false := by rw [← HA.out, he]; rfl
        have x69 : ((s[i].toNat : Int) == 69) = false := by rw [← HA.out, he]; rfl
        have x39 : ((s[i].toNat : Int) == 39) = false := by rw [← HA.out, he]; rfl
        have x34 : ((s[i].toNat : Int) == 34) = true := by rw [← HA.out, he]; rfl
        have x46 : ((s[i].toNat : Int) == 46) = false := by rw [← HA.out, he]; rfl
        have x36 : ((s[i].toNat : Int) == 36) = false := by rw [← HA.out, he]; rfl
        clear he
        have HQ := Lib.hid (show Calls Tryd.prog 96 #[.string s, .int .i64 ((i : Int) + 1), .int .u8 34, .bool false] (w.alloc (.cells #[.int .u8 0, .string { data := #[] }, .int .i64 0, .int .i64 0] 66)) _ from qquoted_any s (i + 1) 34 false _ (by omega) (by omega) (by decide) (by decide))
        cases hq : qt 34 false ((bytes s).drop (i + 1)) with
        | none =>
          have HRT := Lib.hid (show R = none from by rw [HT.out, hq]; rfl)
          rw [hq] at HQ
          clear hq
          go_wp2_with fail
          refine HAT.out.mono ?_; rintro e w1 ⟨rfl, rfl⟩
          go_wp2_with fail
          refine HQ.out.mono ?_; rintro e w1 ⟨rfl, rfl⟩
          unfold qtV
          go_wp2_with fail
          simp [bodyPost, results, Tryd.results68, go_sem]
          rw [HRT.out]
          exact ⟨HBW.out _ _ _ _, _, _, _, rfl, by decide⟩
        | some p =>
          obtain ⟨t, r⟩ := p
          by_cases ht : t = []
          · have HRT := Lib.hid (show R = none from by rw [HT.out, hq]; exact if_pos ht)
            rw [hq, ht] at HQ
            clear hq ht
            go_wp2_with fail
            refine HAT.out.mono ?_; rintro e w1 ⟨rfl, rfl⟩
            go_wp2_with fail
            refine HQ.out.mono ?_; rintro e w1 ⟨rfl, rfl⟩
            rw [show qtV s.size (some (([] : Bs), r)) = .tuple #[.string { data := #[] }, .int .i64 ((s.size - r.length : Nat) : Int)] from rfl]
            go_wp2_with fail
            simp [bodyPost, results, Tryd.results68, go_sem]
            rw [HRT.out]
            exact ⟨HBW.out _ _ _ _, _, _, _, rfl, by decide⟩
          · have HRT := Lib.hid (show R = some (113, t, r) from by rw [HT.out, hq]; exact if_neg ht)
            obtain ⟨tb, htb⟩ : ∃ z : ByteArray, z = ⟨t.toArray⟩ := ⟨_, rfl⟩
            have hne : tb.toList.isEmpty = false := by
              rw [Lib.toList_data, htb]
              cases t with
              | nil => exact absurd rfl ht
              | cons _ _ => rfl
            rw [hq, show qtV s.size (some (t, r)) = .tuple #[.string tb, .int .i64 ((s.size - r.length : Nat) : Int)] from by rw [htb]; rfl] at HQ
            have HTB := Lib.hid htb
            clear hq ht htb
            go_wp2_with fail
            refine HAT.out.mono ?_; rintro e w1 ⟨rfl, rfl⟩
            go_wp2_with fail
            refine HQ.out.mono ?_; rintro e w1 ⟨rfl, rfl⟩
            go_wp2_with fail
            simp [bodyPost, results, Tryd.results68, go_sem]
            rw [HRT.out]
            exact ⟨HBW.out _ _ _ _, by rw [HTB.out]; rfl⟩
      · have HT3 := Lib.hid (HT2.out.trans (if_neg h34))
        by_cases h39 : a = 39
        · have he := h39
          have HT := Lib.hid (HT3.out.trans (if_pos h39))
          clear h101 h69 h34 h39 hbw
          have x101 : ((s[i].toNat : Int) == 101) = false := by rw [← HA.out, he]; rfl
          have x69 : ((s[i].toNat : Int) == 69) = false := by rw [← HA.out, he]; rfl
          have x39 : ((s[i].toNat : Int) == 39) = true := by rw [← HA.out, he]; rfl
          have x34 : ((s[i].toNat : Int) == 34) = false := by rw [← HA.out, he]; rfl
          have x46 : ((s[i].toNat : Int) == 46) = false := by rw [← HA.out, he]; rfl
          have x36 : ((s[i].toNat : Int) == 36) = false := by rw [← HA.out, he]; rfl
          clear he
          have HQ := Lib.hid (show Calls Tryd.prog 96 #[.string s, .int .i64 ((i : Int) + 1), .int .u8 39, .bool false] (w.alloc (.cells #[.int .u8 0, .string { data := #[] }, .int .i64 0, .int .i64 0] 66)) _ from qquoted_any s (i + 1) 39 false _ (by omega) (by omega) (by decide) (by decide))
          cases hq : qt 39 false ((bytes s).drop (i + 1)) with
          | none =>
            have HRT := Lib.hid (show R = none from by rw [HT.out, hq]; rfl)
            rw [hq] at HQ
            clear hq
            go_wp2_with fail
            refine HAT.out.mono ?_; rintro e w1 ⟨rfl, rfl⟩
            go_wp2_with fail
            refine HQ.out.mono ?_; rintro e w1 ⟨rfl, rfl⟩
            unfold qtV
            go_wp2_with fail
            simp [bodyPost, results, Tryd.results68, go_sem]
            rw [HRT.out]
            exact ⟨HBW.out _ _ _ _, _, _, _, rfl, by decide⟩
          | some p =>
            obtain ⟨t, r⟩ := p
            have HRT := Lib.hid (show R = some (115, t, r) from by rw [HT.out, hq]; rfl)
            rw [hq] at HQ
            clear hq
            go_wp2_with fail
            refine HAT.out.mono ?_; rintro e w1 ⟨rfl, rfl⟩
            go_wp2_with fail
            refine HQ.out.mono ?_; rintro e w1 ⟨rfl, rfl⟩
            unfold qtV
            go_wp2_with fail
            simp [bodyPost, results, Tryd.results68, go_sem]
            rw [HRT.out]
            exact ⟨HBW.out _ _ _ _, rfl⟩
        · have HT4 := Lib.hid (HT3.out.trans (if_neg h39))
          cases hda : dg a with
          | true =>
            have HDD := Lib.hid hda
            have HRT := Lib.hid (show R = some (110, ((bytes s).drop i).take (nl ((bytes s).drop i)), ((bytes s).drop i).drop (nl ((bytes s).drop i))) from by rw [HT4.out, if_pos (.inl hda), HD.out])
            have x101 : ((s[i].toNat : Int) == 101) = false := by rw [← HA.out, beq_eq_false_iff_ne]; intro e; exact h101 (UInt8.toNat_inj.1 (by show a.toNat = 101; omega))
            have x69 : ((s[i].toNat : Int) == 69) = false := by rw [← HA.out, beq_eq_false_iff_ne]; intro e; exact h69 (UInt8.toNat_inj.1 (by show a.toNat = 69; omega))
            have x39 : ((s[i].toNat : Int) == 39) = false := by rw [← HA.out, beq_eq_false_iff_ne]; intro e; exact h39 (UInt8.toNat_inj.1 (by show a.toNat = 39; omega))
            have x34 : ((s[i].toNat : Int) == 34) = false := by rw [← HA.out, beq_eq_false_iff_ne]; intro e; exact h34 (UInt8.toNat_inj.1 (by show a.toNat = 34; omega))
            clear h101 h69 h34 h39 hda hbw
            obtain ⟨k, hk⟩ : ∃ k, k = i + nl ((bytes s).drop i) := ⟨_, rfl⟩
            have HNU := Lib.hid (show Calls Tryd.prog 100 #[.string s, .int .i64 i] (w.alloc (.cells #[.int .u8 0, .string { data := #[] }, .int .i64 0, .int .i64 0] 66)) fun e w' => e = .returned (.int .i64 (k : Int)) ∧ (w.alloc (.cells #[.int .u8 0, .string { data := #[] }, .int .i64 0, .int .i64 0] 66)) = w' from by rw [hk]; exact qnumber_any s i _ (by omega) (Nat.le_of_lt hi))
            have hkl : k ≤ s.size := by
              have := nl_le ((bytes s).drop i)
              rw [List.length_drop, bytes_len] at this
              omega
            have hki : (i : Int) ≤ k := by omega
            have hks : (k : Int) ≤ s.size := by omega
            have HTX := Lib.hid (show s.extract i k = ⟨(((bytes s).drop i).take (nl ((bytes s).drop i))).toArray⟩ from qb_eq (by rw [qb_cut, hk, show i + nl ((bytes s).drop i) - i = nl ((bytes s).drop i) by omega]))
            have HTO := Lib.hid (show ((s.size - (((bytes s).drop i).drop (nl ((bytes s).drop i))).length : Nat) : Int) = (k : Int) from by rw [List.drop_drop, ← hk, List.length_drop, bytes_len]; omega)
            clear hk
            go_wp2_with fail
            refine HAT.out.mono ?_; rintro e w1 ⟨rfl, rfl⟩
            go_wp2_with fail
            refine HF.out.mono ?_; rintro e w1 ⟨rfl, rfl⟩
            rw [HFF.out]
            go_wp2_with fail
            refine HDA.out.mono ?_; rintro e w1 ⟨rfl, rfl⟩
            rw [HDD.out]
            go_wp2_with fail
            refine HNU.out.mono ?_; rintro e w1 ⟨rfl, rfl⟩
            go_wp2_with fail
            simp [bodyPost, results, Tryd.results68, go_sem]
            rw [HRT.out]
            refine ⟨HBW.out _ _ _ _, ?_⟩
            show _ = Ending.returned (.agg #[.int .u8 110, .string ⟨(((bytes s).drop i).take (nl ((bytes s).drop i))).toArray⟩, .int .i64 i, .int .i64 ((s.size - (((bytes s).drop i).drop (nl ((bytes s).drop i))).length : Nat) : Int)])
            rw [← HTX.out, HTO.out]
          | false =>
            have HDD := Lib.hid hda
            by_cases he : a = 46
            · cases hdb : dg b with
              | true =>
                have HDBV := Lib.hid hdb
                have HRT := Lib.hid (show R = some (110, ((bytes s).drop i).take (nl ((bytes s).drop i)), ((bytes s).drop i).drop (nl ((bytes s).drop i))) from by rw [HT4.out, if_pos (.inr ⟨he, by rw [HHB.out]; exact hdb⟩), HD.out])
                have x101 : ((s[i].toNat : Int) == 101) = false := by rw [← HA.out, he]; rfl
                have x69 : ((s[i].toNat : Int) == 69) = false := by rw [← HA.out, he]; rfl
                have x39 : ((s[i].toNat : Int) == 39) = false := by rw [← HA.out, he]; rfl
                have x34 : ((s[i].toNat : Int) == 34) = false := by rw [← HA.out, he]; rfl
                have x46 : ((s[i].toNat : Int) == 46) = true := by rw [← HA.out, he]; rfl
                have x36 : ((s[i].toNat : Int) == 36) = false := by rw [← HA.out, he]; rfl
                clear h101 h69 h34 h39 hda hbw hdb he
                obtain ⟨k, hk⟩ : ∃ k, k = i + nl ((bytes s).drop i) := ⟨_, rfl⟩
                have HNU := Lib.hid (show Calls Tryd.prog 100 #[.string s, .int .i64 i] (w.alloc (.cells #[.int .u8 0, .string { data := #[] }, .int .i64 0, .int .i64 0] 66)) fun e w' => e = .returned (.int .i64 (k : Int)) ∧ (w.alloc (.cells #[.int .u8 0, .string { data := #[] }, .int .i64 0, .int .i64 0] 66)) = w' from by rw [hk]; exact qnumber_any s i _ (by omega) (Nat.le_of_lt hi))
                have hkl : k ≤ s.size := by
                  have := nl_le ((bytes s).drop i)
                  rw [List.length_drop, bytes_len] at this
                  omega
                have hki : (i : Int) ≤ k := by omega
                have hks : (k : Int) ≤ s.size := by omega
                have HTX := Lib.hid (show s.extract i k = ⟨(((bytes s).drop i).take (nl ((bytes s).drop i))).toArray⟩ from qb_eq (by rw [qb_cut, hk, show i + nl ((bytes s).drop i) - i = nl ((bytes s).drop i) by omega]))
                have HTO := Lib.hid (show ((s.size - (((bytes s).drop i).drop (nl ((bytes s).drop i))).length : Nat) : Int) = (k : Int) from by rw [List.drop_drop, ← hk, List.length_drop, bytes_len]; omega)
                clear hk
                go_wp2_with fail
                refine HAT.out.mono ?_; rintro e w1 ⟨rfl, rfl⟩
                go_wp2_with fail
                refine HF.out.mono ?_; rintro e w1 ⟨rfl, rfl⟩
                rw [HFF.out]
                go_wp2_with fail
                refine HDA.out.mono ?_; rintro e w1 ⟨rfl, rfl⟩
                rw [HDD.out]
                go_wp2_with fail
                refine HDB.out.mono ?_; rintro e w1 ⟨rfl, rfl⟩
                rw [HDBV.out]
                go_wp2_with fail
                refine HNU.out.mono ?_; rintro e w1 ⟨rfl, rfl⟩
                go_wp2_with fail
                simp [bodyPost, results, Tryd.results68, go_sem]
                rw [HRT.out]
                refine ⟨HBW.out _ _ _ _, ?_⟩
                show _ = Ending.returned (.agg #[.int .u8 110, .string ⟨(((bytes s).drop i).take (nl ((bytes s).drop i))).toArray⟩, .int .i64 i, .int .i64 ((s.size - (((bytes s).drop i).drop (nl ((bytes s).drop i))).length : Nat) : Int)])
                rw [← HTX.out, HTO.out]
              | false =>
                have HDBV := Lib.hid hdb
                have HRT := Lib.hid (show R = some (111, [a], (bytes s).drop (i + 1)) from by
                  rw [HT4.out, if_neg (fun h => h.elim (fun h => by rw [hda] at h; cases h) (fun h => by rw [HHB.out, hdb] at h; cases h.2)), he]; rfl)
                have x101 : ((s[i].toNat : Int) == 101) = false := by rw [← HA.out, he]; rfl
                have x69 : ((s[i].toNat : Int) == 69) = false := by rw [← HA.out, he]; rfl
                have x39 : ((s[i].toNat : Int) == 39) = false := by rw [← HA.out, he]; rfl
                have x34 : ((s[i].toNat : Int) == 34) = false := by rw [← HA.out, he]; rfl
                have x46 : ((s[i].toNat : Int) == 46) = true := by rw [← HA.out, he]; rfl
                have x36 : ((s[i].toNat : Int) == 36) = false := by rw [← HA.out, he]; rfl
                clear h101 h69 h34 h39 hda hbw hdb he
                have hi1 : (i : Int) + 1 ≤ s.size := by omega
                have HTX := Lib.hid (show s.extract i (i + 1) = ⟨[a].toArray⟩ from qb_eq (by rw [qb_one hi, ← HA.out]))
                have HTO := Lib.hid (show ((s.size - ((bytes s).drop (i + 1)).length : Nat) : Int) = (i : Int) + 1 from by rw [List.length_drop, bytes_len]; omega)
                go_wp2_with fail
                refine HAT.out.mono ?_; rintro e w1 ⟨rfl, rfl⟩
                go_wp2_with fail
                refine HF.out.mono ?_; rintro e w1 ⟨rfl, rfl⟩
                rw [HFF.out]
                go_wp2_with fail
                refine HDA.out.mono ?_; rintro e w1 ⟨rfl, rfl⟩
                rw [HDD.out]
                go_wp2_with fail
                refine HDB.out.mono ?_; rintro e w1 ⟨rfl, rfl⟩
                rw [HDBV.out]
                go_wp2_with fail
                simp [bodyPost, results, Tryd.results68, go_sem]
                rw [HRT.out]
                refine ⟨HBW.out _ _ _ _, ?_⟩
                show _ = Ending.returned (.agg #[.int .u8 111, .string ⟨[a].toArray⟩, .int .i64 i, .int .i64 ((s.size - ((bytes s).drop (i + 1)).length : Nat) : Int)])
                rw [← HTX.out, HTO.out]
            · have h46 := he
              clear he
              have HT5 := Lib.hid (HT4.out.trans (if_neg (fun h => h.elim (fun h => by rw [hda] at h; cases h) (fun h => h46 h.1))))
              by_cases he : a = 36
              · have HTG := Lib.hid (qtag_any s i (w.alloc (.cells #[.int .u8 0, .string { data := #[] }, .int .i64 0, .int .i64 0] 66)) (by omega) (by rw [get_atQ hi, ← HA.out, he]))
                have x101 : ((s[i].toNat : Int) == 101) = false := by rw [← HA.out, he]; rfl
                have x69 : ((s[i].toNat : Int) == 69) = false := by rw [← HA.out, he]; rfl
                have x39 : ((s[i].toNat : Int) == 39) = false := by rw [← HA.out, he]; rfl
                have x34 : ((s[i].toNat : Int) == 34) = false := by rw [← HA.out, he]; rfl
                have x46 : ((s[i].toNat : Int) == 46) = false := by rw [← HA.out, he]; rfl
                have x36 : ((s[i].toNat : Int) == 36) = true := by rw [← HA.out, he]; rfl
                clear h101 h69 h34 h39 hda hbw h46 he
                cases ht : tagOf ((bytes s).drop i) with
                | none =>
                  have HRT := Lib.hid (show R = some (111, [a], (bytes s).drop (i + 1)) from by rw [HT5.out, ← HD.out, ht])
                  rw [ht, show tagI i none = -1 from rfl] at HTG
                  clear ht
                  have hi1 : (i : Int) + 1 ≤ s.size := by omega
                  have HTX := Lib.hid (show s.extract i (i + 1) = ⟨[a].toArray⟩ from qb_eq (by rw [qb_one hi, ← HA.out]))
                  have HTO := Lib.hid (show ((s.size - ((bytes s).drop (i + 1)).length : Nat) : Int) = (i : Int) + 1 from by rw [List.length_drop, bytes_len]; omega)
                  go_wp2_with fail
                  refine HAT.out.mono ?_; rintro e w1 ⟨rfl, rfl⟩
                  go_wp2_with fail
                  refine HF.out.mono ?_; rintro e w1 ⟨rfl, rfl⟩
                  rw [HFF.out]
                  go_wp2_with fail
                  refine HDA.out.mono ?_; rintro e w1 ⟨rfl, rfl⟩
                  rw [HDD.out]
                  go_wp2_with fail
                  refine HTG.out.mono ?_; rintro e w1 ⟨rfl, rfl⟩
                  go_wp2_with fail
                  simp [bodyPost, results, Tryd.results68, go_sem]
                  rw [HRT.out]
                  refine ⟨HBW.out _ _ _ _, ?_⟩
                  show _ = Ending.returned (.agg #[.int .u8 111, .string ⟨[a].toArray⟩, .int .i64 i, .int .i64 ((s.size - ((bytes s).drop (i + 1)).length : Nat) : Int)])
                  rw [← HTX.out, HTO.out]
                | some t =>
                  obtain ⟨htk, htl, ⟨r0, hr0⟩, htp⟩ := tag_prefix ht
                  rw [List.length_drop, bytes_len] at htl
                  obtain ⟨k, hk⟩ : ∃ k, k = i + t.length := ⟨_, rfl⟩
                  have hki : (i : Int) ≤ k := by omega
                  have hks : (k : Int) ≤ s.size := by omega
                  have hk0 : (0 : Int) ≤ k := by omega
                  rw [ht, show tagI i (some t) = (k : Int) from by rw [hk]; rfl] at HTG
                  have hbt : bytes (s.extract i k) = t := by rw [qb_cut, hk, show i + t.length - i = t.length by omega, ← htk]
                  have HFI := Lib.hid (show Calls Tryd.prog 102 #[.string s, .int .i64 k, .string (s.extract i k)] (w.alloc (.cells #[.int .u8 0, .string { data := #[] }, .int .i64 0, .int .i64 0] 66)) fun e w' => e = .returned (.int .i64 (findI k (find t ((bytes s).drop k)))) ∧ (w.alloc (.cells #[.int .u8 0, .string { data := #[] }, .int .i64 0, .int .i64 0] 66)) = w' from by
                    have := qfind_any s (s.extract i k) k (w.alloc (.cells #[.int .u8 0, .string { data := #[] }, .int .i64 0, .int .i64 0] 66)) (by omega) (by rw [ByteArray.size_extract]; omega) (by omega)
                    rw [hbt] at this; exact this)
                  have HT6 := Lib.hid (show R = (find t ((bytes s).drop k)).map fun n => (115, ((bytes s).drop k).take n, ((bytes s).drop i).drop (t.length + n + t.length)) from by
                    rw [HT5.out, ← HD.out, ht]
                    show (find t (((bytes s).drop i).drop t.length)).map (fun n => (115, (((bytes s).drop i).drop t.length).take n, ((bytes s).drop i).drop (t.length + n + t.length))) = _
                    rw [List.drop_drop, ← hk])
                  clear ht hbt hr0 htk
                  rcases find_index t ((bytes s).drop k) with ⟨hf, _⟩ | ⟨n, hf, _, hnl⟩
                  · have HRT := Lib.hid (show R = none from by rw [HT6.out, hf]; rfl)
                    rw [hf, show findI k none = -1 from rfl] at HFI
                    clear hf hk
                    go_wp2_with fail
                    refine HAT.out.mono ?_; rintro e w1 ⟨rfl, rfl⟩
                    go_wp2_with fail
                    refine HF.out.mono ?_; rintro e w1 ⟨rfl, rfl⟩
                    rw [HFF.out]
                    go_wp2_with fail
                    refine HDA.out.mono ?_; rintro e w1 ⟨rfl, rfl⟩
                    rw [HDD.out]
                    go_wp2_with fail
                    refine HTG.out.mono ?_; rintro e w1 ⟨rfl, rfl⟩
                    go_wp2_with fail
                    refine HTG.out.mono ?_; rintro e w1 ⟨rfl, rfl⟩
                    go_wp2_with fail
                    refine HFI.out.mono ?_; rintro e w1 ⟨rfl, rfl⟩
                    go_wp2_with fail
                    simp [bodyPost, results, Tryd.results68, go_sem]
                    rw [HRT.out]
                    exact ⟨HBW.out _ _ _ _, _, _, _, rfl, by decide⟩
                  · rw [List.length_drop, bytes_len] at hnl
                    obtain ⟨q, hq⟩ : ∃ q, q = k + n := ⟨_, rfl⟩
                    have HRT := Lib.hid (show R = some (115, ((bytes s).drop k).take n, ((bytes s).drop i).drop (t.length + n + t.length)) from by rw [HT6.out, hf]; rfl)
                    rw [hf, show findI k (some n) = (q : Int) from by rw [hq]; rfl] at HFI
                    have hkq : (k : Int) ≤ q := by omega
                    have hqs : (q : Int) ≤ s.size := by omega
                    have hq0 : ¬ (q : Int) < 0 := by omega
                    have HTX := Lib.hid (show s.extract k q = ⟨(((bytes s).drop k).take n).toArray⟩ from qb_eq (by rw [qb_cut, hq, show k + n - k = n by omega]))
                    have HTO := Lib.hid (show ((s.size - (((bytes s).drop i).drop (t.length + n + t.length)).length : Nat) : Int) = (q : Int) + k - i from by
                      rw [List.drop_drop, List.length_drop, bytes_len]
                      omega)
                    clear hf hk hq hnl
                    go_wp2_with fail
                    refine HAT.out.mono ?_; rintro e w1 ⟨rfl, rfl⟩
                    go_wp2_with fail
                    refine HF.out.mono ?_; rintro e w1 ⟨rfl, rfl⟩
                    rw [HFF.out]
                    go_wp2_with fail
                    refine HDA.out.mono ?_; rintro e w1 ⟨rfl, rfl⟩
                    rw [HDD.out]
                    go_wp2_with fail
                    refine HTG.out.mono ?_; rintro e w1 ⟨rfl, rfl⟩
                    go_wp2_with fail
                    refine HTG.out.mono ?_; rintro e w1 ⟨rfl, rfl⟩
                    go_wp2_with fail
                    refine HFI.out.mono ?_; rintro e w1 ⟨rfl, rfl⟩
                    go_wp2_with fail
                    simp [bodyPost, results, Tryd.results68, go_sem]
                    rw [HRT.out]
                    refine ⟨HBW.out _ _ _ _, ?_⟩
                    show _ = Ending.returned (.agg #[.int .u8 115, .string ⟨(((bytes s).drop k).take n).toArray⟩, .int .i64 i, .int .i64 ((s.size - (((bytes s).drop i).drop (t.length + n + t.length)).length : Nat) : Int)])
                    rw [← HTX.out, HTO.out]
              · have h36 := he
                clear he
                have HRT := Lib.hid (show R = some (111, [a], (bytes s).drop (i + 1)) from by
                  rw [HT5.out]
                  have h0 : tagOf (a :: (bytes s).drop (i + 1)) = none := by
                    show (if a = 36 ∧ _ then _ else none) = none
                    exact if_neg (fun h => h36 h.1)
                  rw [h0])
                have x101 : ((s[i].toNat : Int) == 101) = false := by rw [← HA.out, beq_eq_false_iff_ne]; intro e; exact h101 (UInt8.toNat_inj.1 (by show a.toNat = 101; omega))
                have x69 : ((s[i].toNat : Int) == 69) = false := by rw [← HA.out, beq_eq_false_iff_ne]; intro e; exact h69 (UInt8.toNat_inj.1 (by show a.toNat = 69; omega))
                have x39 : ((s[i].toNat : Int) == 39) = false := by rw [← HA.out, beq_eq_false_iff_ne]; intro e; exact h39 (UInt8.toNat_inj.1 (by show a.toNat = 39; omega))
                have x34 : ((s[i].toNat : Int) == 34) = false := by rw [← HA.out, beq_eq_false_iff_ne]; intro e; exact h34 (UInt8.toNat_inj.1 (by show a.toNat = 34; omega))
                have x46 : ((s[i].toNat : Int) == 46) = false := by rw [← HA.out, beq_eq_false_iff_ne]; intro e; exact h46 (UInt8.toNat_inj.1 (by show a.toNat = 46; omega))
                have x36 : ((s[i].toNat : Int) == 36) = false := by rw [← HA.out, beq_eq_false_iff_ne]; intro e; exact h36 (UInt8.toNat_inj.1 (by show a.toNat = 36; omega))
                clear h101 h69 h34 h39 hda hbw h46 h36
                have hi1 : (i : Int) + 1 ≤ s.size := by omega
                have HTX := Lib.hid (show s.extract i (i + 1) = ⟨[a].toArray⟩ from qb_eq (by rw [qb_one hi, ← HA.out]))
                have HTO := Lib.hid (show ((s.size - ((bytes s).drop (i + 1)).length : Nat) : Int) = (i : Int) + 1 from by rw [List.length_drop, bytes_len]; omega)
                go_wp2_with fail
                refine HAT.out.mono ?_; rintro e w1 ⟨rfl, rfl⟩
                go_wp2_with fail
                refine HF.out.mono ?_; rintro e w1 ⟨rfl, rfl⟩
                rw [HFF.out]
                go_wp2_with fail
                refine HDA.out.mono ?_; rintro e w1 ⟨rfl, rfl⟩
                rw [HDD.out]
                go_wp2_with fail
                simp [bodyPost, results, Tryd.results68, go_sem]
                rw [HRT.out]
                refine ⟨HBW.out _ _ _ _, ?_⟩
                show _ = Ending.returned (.agg #[.int .u8 111, .string ⟨[a].toArray⟩, .int .i64 i, .int .i64 ((s.size - ((bytes s).drop (i + 1)).length : Nat) : Int)])
                rw [← HTX.out, HTO.out]
end Go.Proofs.YtgopajddloeclaaDoor
