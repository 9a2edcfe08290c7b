/- A text of one statement, with another one behind it, has no one any more, and with signs around it has it still, at its place: SplitOne answers true, and leaves what was there as it was. (Over the listed variables, tied to the program's text.) -/
import Derived.Test.YtckimeikiakfcaaDoorCard
import Derived.Test.YtckimeikiakfcaaDoorOneM
import Derived.Test.YtckimeikiakfcaaDoorOne
import Derived.Test.YtckimeikiakfcaaDoorShown4
import Derived.Test.YtckimeikiakfcaaDoorFieldsA
namespace Go.Proofs.YtckimeikiakfcaaDoor
open Go.RowKit Go.Lib Go.WideShapes Go.ChangeShapes Go.ChangeAt Go.Joins

theorem ob_cat (a b : ByteArray) : bytes (a ++ b) = bytes a ++ bytes b := by simp [bytes]
/-- Signs in a row, as a string. -/
def semiB (k : Nat) : ByteArray := ⟨(semis k).toArray⟩
theorem semiB_bytes (k : Nat) : bytes (semiB k) = semis k := by simp [bytes, semiB]
theorem semiB_size (k : Nat) : (semiB k).size = 2 * k := by rw [← bytes_len, semiB_bytes, semis_length]
theorem semiB_snoc (k : Nat) : semiB k ++ ({ data := #[59, 32] } : ByteArray) = semiB (k + 1) := by
  have h : bytes (semiB k ++ ({ data := #[59, 32] } : ByteArray)) = bytes (semiB (k + 1)) := by
    rw [ob_cat, semiB_bytes, semiB_bytes, semis_snoc]
  exact ByteArray.ext (Array.toList_inj.1 h)
theorem around_bytes (s : ByteArray) (k : Nat) : bytes (((semiB k ++ s) ++ ({ data := #[10] } : ByteArray)) ++ semiB k) = semis k ++ (bytes s ++ 10 :: semis k) := by
  rw [ob_cat, ob_cat, ob_cat, semiB_bytes]; simp [bytes]
theorem behind_bytes (s : ByteArray) : bytes (s ++ ({ data := #[10, 59, 120] } : ByteArray)) = bytes s ++ [10, 59, 120] := ob_cat _ _

/-- The one statement of a text is small. -/
theorem st_small {s : Bs} {T : List Tok} {x : St} (hT : tokens s = some T) (hX : splits T = [x.toks]) : x.toks ≠ [] ∧ (0 ≤ x.lo ∧ x.lo ≤ s.length) ∧ (0 ≤ x.hi ∧ x.hi ≤ s.length) ∧ x.toks.length ≤ s.length ∧ ∀ q ∈ x.toks, q.text.length ≤ s.length := by
  obtain ⟨h1, h2, h3⟩ := splits_mem _ T (Nat.le_refl _) x.toks (by rw [hX]; exact List.mem_cons_self ..)
  obtain ⟨f1, f2⟩ := tokens_facts hT
  have hs := tokens_small hT
  refine ⟨h1, ?_, ?_, by omega, fun q hq => hs q (h2 q hq).1⟩
  · obtain ⟨a, l, hl⟩ := List.exists_cons_of_ne_nil h1
    have := f2 a (h2 a (by rw [hl]; exact List.mem_cons_self ..)).1
    unfold St.lo
    rw [hl]
    show 0 ≤ (a.lo : Int) ∧ (a.lo : Int) ≤ _
    omega
  · have hm := List.getLast_mem h1
    have := f2 _ (h2 _ hm).1
    unfold St.hi
    rw [List.getLast?_eq_some_getLast h1]
    show 0 ≤ ((x.toks.getLast h1).hi : Int) ∧ ((x.toks.getLast h1).hi : Int) ≤ _
    omega

/-- What six cells say. -/
def Six (W : World) (p q : Nat) (yu : Option Addr) (yd : Nat) (ylo yhi : Int) (xu : Option Addr) (xd : Nat) (xlo xhi : Int) (L : Nat) : Prop :=
  (W.cell? ⟨p, 0, none⟩ = some (.slice yu L yd) ∧ W.cell? ⟨p, 1, none⟩ = some (.int .i64 ylo) ∧ W.cell? ⟨p, 2, none⟩ = some (.int .i64 yhi)) ∧
  W.cell? ⟨q, 0, none⟩ = some (.slice xu L xd) ∧ W.cell? ⟨q, 1, none⟩ = some (.int .i64 xlo) ∧ W.cell? ⟨q, 2, none⟩ = some (.int .i64 xhi)
theorem Six.step {W W' : World} {p q : Nat} {yu : Option Addr} {yd : Nat} {ylo yhi : Int} {xu : Option Addr} {xd : Nat} {xlo xhi : Int} {L : Nat} (h : Six W p q yu yd ylo yhi xu xd xlo xhi L) (hb : Below W.heap.size W W') (hp : p < W.heap.size) (hq : q < W.heap.size) : Six W' p q yu yd ylo yhi xu xd xlo xhi L :=
  ⟨⟨(hb.cell (p := ⟨p, 0, none⟩) hp).trans h.1.1, (hb.cell (p := ⟨p, 1, none⟩) hp).trans h.1.2.1, (hb.cell (p := ⟨p, 2, none⟩) hp).trans h.1.2.2⟩, (hb.cell (p := ⟨q, 0, none⟩) hq).trans h.2.1, (hb.cell (p := ⟨q, 1, none⟩) hq).trans h.2.2.1, (hb.cell (p := ⟨q, 2, none⟩) hq).trans h.2.2.2⟩

set_option maxRecDepth 100000 in
set_option maxHeartbeats 8000000 in
theorem one_walk (s : ByteArray) (v : Int) (m : Int) (w : World) (hs : s.size ≤ 1500) (hv : -9223372036854775808 ≤ v ∧ v ≤ 9223372036854775807) (hm : w.cell? ⟨0, 0, none⟩ = some (.int .i64 m)) :
    Calls Tryd.prog 8 #[.string s, .int .i64 v] w fun e w' => e = .returned (.bool true) ∧ Below w.heap.size w w' := by
  have HM := Lib.hid hm
  have HW0 := Lib.hid (World.block_lt_of_cell? w ⟨0, 0, none⟩ hm)
  have HSH := Lib.hid (shown4_true m w hm)
  have HONE := Lib.hid (fun (S : ByteArray) (W : World) h1 h2 => one_any S m W h1 h2)
  have HFI := Lib.hid (fun p T n c W h1 h2 h3 h4 h5 => fields_any p T n c m W h1 h2 h3 h4 h5)
  clear hm
  go_enter Tryd.func8, Tryd.ntmps8
  go_wp2_with fail
  refine HSH.out.mono ?_; rintro e w1 ⟨rfl, hb1⟩
  have HB1 := Lib.hid hb1
  have HM1 := Lib.hid ((hb1.cell (p := ⟨0, 0, none⟩) HW0.out).trans HM.out)
  clear hb1 HSH
  go_wp2_with fail
  refine (HONE.out s w1 (by omega) HM1.out).mono ?_; rintro e w2 ⟨hb2, hcs⟩
  have HB2 := Lib.hid (HB1.out.step hb2 HB1.out.size)
  clear hb2
  rcases hcs with ⟨_, rfl⟩ | ⟨T, _, _, rfl⟩ | ⟨T, x, hT, hX, rfl, hxi⟩
  · have HB3 := Lib.hid (HB2.out.alloc HB2.out.size (.cells #[.slice none 0 0, .int .i64 0, .int .i64 0] 35))
    go_wp2_with fail
    go_ret
    exact ⟨rfl, HB3.out⟩
  · have HB3 := Lib.hid (HB2.out.alloc HB2.out.size (.cells #[.slice none 0 0, .int .i64 0, .int .i64 0] 35))
    go_wp2_with fail
    go_ret
    exact ⟨rfl, HB3.out⟩
  obtain ⟨hx0, hxl, hxh, hxn, hxt⟩ := st_small hT hX
  rw [bytes_len] at hxl hxh hxn hxt
  obtain ⟨L, hL⟩ : ∃ L, x.toks.length = L := ⟨_, rfl⟩
  rw [hL] at hxn
  have HT := Lib.hid hT; have HX := Lib.hid hX; have HXI := Lib.hid hxi; have HX0 := Lib.hid hx0; have HL := Lib.hid hL
  have HXT := Lib.hid (show ∀ q ∈ x.toks, q.text.length ≤ 2000 from fun q hq => Nat.le_trans (hxt q hq) (by omega))
  have hLb : (L : Int) ≤ 1500 := by omega
  clear hT hX hxi hx0 hxt
  rw [hL]
  clear hL
  have HB23 := Lib.hid ((Below.refl _ w2).alloc (Nat.le_refl _) (.cells #[.slice x.u L x.d, .int .i64 x.lo, .int .i64 x.hi] 35))
  have HB03 := Lib.hid (HB2.out.alloc HB2.out.size (.cells #[.slice x.u L x.d, .int .i64 x.lo, .int .i64 x.hi] 35))
  have HA := Lib.hid (show (w2.alloc (.cells #[.slice x.u L x.d, .int .i64 x.lo, .int .i64 x.hi] 35)).cell? ⟨w2.heap.size, 0, none⟩ = some (.slice x.u L x.d) ∧ (w2.alloc (.cells #[.slice x.u L x.d, .int .i64 x.lo, .int .i64 x.hi] 35)).cell? ⟨w2.heap.size, 1, none⟩ = some (.int .i64 x.lo) ∧ (w2.alloc (.cells #[.slice x.u L x.d, .int .i64 x.lo, .int .i64 x.hi] 35)).cell? ⟨w2.heap.size, 2, none⟩ = some (.int .i64 x.hi) from ⟨World.cell?_alloc_new _ _ _ _, World.cell?_alloc_new _ _ _ _, World.cell?_alloc_new _ _ _ _⟩)
  have HZ3 := Lib.hid (show w2.heap.size < (w2.alloc (.cells #[.slice x.u L x.d, .int .i64 x.lo, .int .i64 x.hi] 35)).heap.size by simp)
  go_upto_region 7 with (fail)
  generalize w2.alloc (.cells #[.slice x.u L x.d, .int .i64 x.lo, .int .i64 x.hi] 35) = w3 at HB23 HB03 HA HZ3 ⊢
  have HM3 := Lib.hid ((HB03.out.cell (p := ⟨0, 0, none⟩) HW0.out).trans HM.out)
  clear HB1 HB2 HM1
  have hv0 := hv.1
  have hv1 := hv.2
  clear hv
  by_cases hneg : v < 0
  · have HNE := Lib.hid (show 0 ≤ -(v + 1) ∧ -(v + 1) ≤ 9223372036854775807 by omega)
    go_upto_region 10 with (fail)
    generalize -(v + 1) = n at HNE ⊢
    have hn0 := HNE.out.1
    have hn9 := HNE.out.2
    clear HNE
    go_wp2_with fail
    go_loopw [10, 11] (fun t i wr => ∃ k : Nat, i = .int .i64 k ∧ (k : Int) ≤ n % 6 ∧ t = .string (semiB k) ∧ w3 = wr) (fun _ i _ => 6 - (RowKit.intOf i).toNat)
    case atStart => exact ⟨0, rfl, by omega, rfl, rfl⟩
    case round =>
      obtain ⟨k, rfl, hk, rfl, rfl⟩ := hrel
      by_cases hlt : (k : Int) < n % 6
      · have hk5 : (semiB k).size ≤ 2000 := by rw [semiB_size]; omega
        have HSS := Lib.hid (semiB_snoc k)
        go_wp2_with fail
        go_roundw
        case rel => exact ⟨k + 1, by go_num, by omega, by rw [HSS.out], by first | rfl | trivial⟩
        case measure => simp [RowKit.intOf]; omega
      · have hge : n % 6 ≤ (k : Int) := by omega
        have hk6 : k ≤ 5 := by omega
        have HAB := Lib.hid (around_bytes s k)
        have HBB := Lib.hid (behind_bytes s)
        have hts := semiB_size k
        have hts' : (semiB k).size ≤ 10 := by omega
        have hs3 : (((semiB k ++ s) ++ ({ data := #[10] } : ByteArray)) ++ semiB k).size ≤ 2000 := by
          rw [ByteArray.size_append, ByteArray.size_append, ByteArray.size_append]; show (semiB k).size + s.size + 1 + (semiB k).size ≤ _; omega
        have hs4 : (s ++ ({ data := #[10, 59, 120] } : ByteArray)).size ≤ 2000 := by rw [ByteArray.size_append]; show s.size + 3 ≤ _; omega
        have HTS := Lib.hid hts
        obtain ⟨Ta, hTa, hSa⟩ := one_around k HT.out HX.out
        obtain ⟨Tb, hTb, hSb⟩ := one_behind HT.out HX.out
        rw [← HAB.out] at hTa
        rw [← HBB.out] at hTb
        have HTA := Lib.hid hTa; have HSA := Lib.hid hSa; have HTB := Lib.hid hTb; have HSB := Lib.hid hSb
        clear hTa hSa hTb hSb hts HAB HBB hlt hk
        generalize semiB k = tb at HTS HTA hts' hs3 ⊢
        go_wp2_with fail
        refine (HONE.out _ w3 hs3 HM3.out).mono ?_; rintro e w4 ⟨hb4, hcs⟩
        rcases hcs with ⟨hN, _⟩ | ⟨T2, hT2, hN, _⟩ | ⟨T2, y, hT2, hY, rfl, hyi⟩
        · rw [HTA.out] at hN; cases hN
        · rw [HTA.out] at hT2; cases hT2; exact absurd (by rw [HSA.out]; rfl) hN
        rw [HTA.out] at hT2; cases hT2
        rw [HSA.out] at hY
        have hyt : y.toks = x.toks.map (moved (2 * k)) := by simpa using hY.symm
        have HYT := Lib.hid hyt; have HYI := Lib.hid hyi
        have hst := st_moved HX0.out hyt
        have hyl : y.toks.length = L := by rw [hyt, List.length_map]; exact HL.out
        have hlo : y.lo = x.lo + (tb.size : Int) := by rw [hst.1, HTS.out]
        have hhi : y.hi = x.hi + (tb.size : Int) := by rw [hst.2, HTS.out]
        rw [hlo, hhi]
        rw [hyl]
        have HYL := Lib.hid hyl
        have HB4 := Lib.hid hb4
        have HM4 := Lib.hid ((hb4.cell (p := ⟨0, 0, none⟩) (Nat.lt_of_lt_of_le HW0.out HB03.out.size)).trans HM3.out)
        clear hyt hyi hst hyl hY hb4 hs3 hlo hhi
        have HB5 := Lib.hid ((Below.refl _ w4).alloc (Nat.le_refl _) (.cells #[.slice y.u L y.d, .int .i64 (x.lo + (tb.size : Int)), .int .i64 (x.hi + (tb.size : Int))] 35))
        go_wp2_with fail
        have y0 : (w4.alloc (.cells #[.slice y.u L y.d, .int .i64 (x.lo + (tb.size : Int)), .int .i64 (x.hi + (tb.size : Int))] 35)).cell? ⟨w4.heap.size, 0, none⟩ = some (.slice y.u L y.d) := World.cell?_alloc_new _ _ _ _
        have y1 : (w4.alloc (.cells #[.slice y.u L y.d, .int .i64 (x.lo + (tb.size : Int)), .int .i64 (x.hi + (tb.size : Int))] 35)).cell? ⟨w4.heap.size, 1, none⟩ = some (.int .i64 (x.lo + (tb.size : Int))) := World.cell?_alloc_new _ _ _ _
        have y2 : (w4.alloc (.cells #[.slice y.u L y.d, .int .i64 (x.lo + (tb.size : Int)), .int .i64 (x.hi + (tb.size : Int))] 35)).cell? ⟨w4.heap.size, 2, none⟩ = some (.int .i64 (x.hi + (tb.size : Int))) := World.cell?_alloc_new _ _ _ _
        have hz5 : w4.heap.size < (w4.alloc (.cells #[.slice y.u L y.d, .int .i64 (x.lo + (tb.size : Int)), .int .i64 (x.hi + (tb.size : Int))] 35)).heap.size := by simp
        generalize w4.alloc (.cells #[.slice y.u L y.d, .int .i64 (x.lo + (tb.size : Int)), .int .i64 (x.hi + (tb.size : Int))] 35) = w5 at HB5 y0 y1 y2 hz5 ⊢
        have HB35 := Lib.hid (HB4.out.step HB5.out HB4.out.size)
        have HM5 := Lib.hid ((HB35.out.cell (p := ⟨0, 0, none⟩) (Nat.lt_of_lt_of_le HW0.out HB03.out.size)).trans HM3.out)
        have HY := Lib.hid (And.intro y0 (And.intro y1 y2))
        clear y0 y1 y2
        refine (HONE.out _ w5 hs4 HM5.out).mono ?_; rintro e w6 ⟨hb6, hcs⟩
        rcases hcs with ⟨hN, _⟩ | ⟨T2, hT2, hN, rfl⟩ | ⟨T2, z, hT2, hZ, _⟩
        · rw [HTB.out] at hN; cases hN
        case inr.inr => rw [HTB.out] at hT2; cases hT2; exact absurd (by rw [hZ]; rfl) HSB.out
        have HB6 := Lib.hid hb6
        clear hb6 hT2 hN hs4
        go_upto_region 17 with (fail)
        have hb7 : Below w6.heap.size w6 (w6.alloc (.cells #[.slice none 0 0, .int .i64 0, .int .i64 0] 35)) := (Below.refl _ w6).alloc (Nat.le_refl _) _
        generalize w6.alloc (.cells #[.slice none 0 0, .int .i64 0, .int .i64 0] 35) = w7 at hb7 ⊢
        have HB57 := Lib.hid (HB6.out.step hb7 HB6.out.size)
        have HB37 := Lib.hid (HB35.out.step HB57.out HB35.out.size)
        have hp7 : w4.heap.size < w7.heap.size := Nat.lt_of_lt_of_le hz5 HB57.out.size
        have hq3 : w2.heap.size < w3.heap.size := HZ3.out
        have hq7 : w2.heap.size < w7.heap.size := Nat.lt_of_lt_of_le hq3 HB37.out.size
        have S0 : Six w7 w4.heap.size w2.heap.size y.u y.d (x.lo + (tb.size : Int)) (x.hi + (tb.size : Int)) x.u x.d x.lo x.hi L ∧ Below w7.heap.size w7 w7 := ⟨⟨⟨(HB57.out.cell (p := ⟨w4.heap.size, 0, none⟩) hz5).trans HY.out.1, (HB57.out.cell (p := ⟨w4.heap.size, 1, none⟩) hz5).trans HY.out.2.1, (HB57.out.cell (p := ⟨w4.heap.size, 2, none⟩) hz5).trans HY.out.2.2⟩,
          (HB37.out.cell (p := ⟨w2.heap.size, 0, none⟩) hq3).trans HA.out.1, (HB37.out.cell (p := ⟨w2.heap.size, 1, none⟩) hq3).trans HA.out.2.1, (HB37.out.cell (p := ⟨w2.heap.size, 2, none⟩) hq3).trans HA.out.2.2⟩, Below.refl _ _⟩
        have HSTEP := Lib.hid (show ∀ W W', (Six W w4.heap.size w2.heap.size y.u y.d (x.lo + (tb.size : Int)) (x.hi + (tb.size : Int)) x.u x.d x.lo x.hi L ∧ Below w7.heap.size w7 W) → Below W.heap.size W W' → (Six W' w4.heap.size w2.heap.size y.u y.d (x.lo + (tb.size : Int)) (x.hi + (tb.size : Int)) x.u x.d x.lo x.hi L ∧ Below w7.heap.size w7 W') from fun W W' h hb => ⟨h.1.step hb (Nat.lt_of_lt_of_le hp7 h.2.size) (Nat.lt_of_lt_of_le hq7 h.2.size), h.2.step hb h.2.size⟩)
        obtain ⟨FF, hF⟩ : ∃ FF : ByteArray, FF = ⟨(fieldsB x.toks).toArray⟩ := ⟨_, rfl⟩
        have HM7 := Lib.hid ((HB37.out.cell (p := ⟨0, 0, none⟩) (Nat.lt_of_lt_of_le HW0.out HB03.out.size)).trans HM3.out)
        have hw7 : 0 < w7.heap.size := Nat.lt_of_lt_of_le HW0.out (Nat.le_trans HB03.out.size HB37.out.size)
        have HFY := Lib.hid (show ∀ W, Below w7.heap.size w7 W → Calls Tryd.prog 11 #[.slice y.u L y.d] W fun e w' => e = .returned (.string FF) ∧ Below W.heap.size W w' from fun W hW => by
          have := HFI.out y.u y.toks L y.d W HYL.out (by omega) (((HYI.out.at.step HB5.out).step (HB57.out.step hW HB57.out.size)).off) (by rw [HYT.out]; intro q hq; obtain ⟨u, hu, rfl⟩ := List.mem_map.1 hq; exact HXT.out u hu) ((hW.cell (p := ⟨0, 0, none⟩) hw7).trans HM7.out)
          rw [HYT.out, fields_moved, ← hF] at this; exact this)
        have HFX := Lib.hid (show ∀ W, Below w7.heap.size w7 W → Calls Tryd.prog 11 #[.slice x.u L x.d] W fun e w' => e = .returned (.string FF) ∧ Below W.heap.size W w' from fun W hW => by
          have := HFI.out x.u x.toks L x.d W HL.out (by omega) (((HXI.out.at.step HB23.out).step (HB37.out.step hW HB37.out.size)).off) HXT.out ((hW.cell (p := ⟨0, 0, none⟩) hw7).trans HM7.out)
          rw [← hF] at this; exact this)
        have HBN := Lib.hid (show ∀ W, Below w7.heap.size w7 W → Below w.heap.size w W from fun W h => HB03.out.step (HB37.out.step h HB37.out.size) HB03.out.size)
        clear hF hb7 hw7 HM7 HB57 HB37 HB35 HB6 HB5 HB4 HY HA HYI HXI HYT HYL HX0 HL HXT HT HX HTA HSA HTB HSB HM3 HM4 HM5 HB03 HB23 HTS HONE HFI hz5 hp7 hq3 hq7 HZ3 HW0 HM
        generalize y.u = yu at S0 HFY HSTEP ⊢
        generalize y.d = yd at S0 HFY HSTEP ⊢
        generalize x.u = xu at S0 HFX HSTEP ⊢
        generalize x.d = xd at S0 HFX HSTEP ⊢
        generalize x.lo = xlo at S0 HSTEP hxl ⊢
        generalize x.hi = xhi at S0 HSTEP hxh ⊢
        generalize w4.heap.size = g4 at S0 HSTEP ⊢
        generalize w2.heap.size = g2 at S0 HSTEP ⊢
        have hxl0 := hxl.1; have hxl1 := hxl.2; have hxh0 := hxh.1; have hxh1 := hxh.2
        clear hxl hxh
        have q1 : IntKind.i64.wrap (xlo + (tb.size : Int)) = xlo + (tb.size : Int) := by rw [IntKind.wrap_i64]; omega
        have q2 : IntKind.i64.wrap (xhi + (tb.size : Int)) = xhi + (tb.size : Int) := by rw [IntKind.wrap_i64]; omega
        have q3 : (xlo + (tb.size : Int) == xlo + (tb.size : Int)) = true := by simp
        have q4 : (xhi + (tb.size : Int) == xhi + (tb.size : Int)) = true := by simp
        unfold Six at S0 HSTEP
        go_region_held3 (fun w' => ((w'.cell? ⟨g4, 0, none⟩ = some (.slice yu L yd) ∧ w'.cell? ⟨g4, 1, none⟩ = some (.int .i64 (xlo + (tb.size : Int))) ∧ w'.cell? ⟨g4, 2, none⟩ = some (.int .i64 (xhi + (tb.size : Int)))) ∧ w'.cell? ⟨g2, 0, none⟩ = some (.slice xu L xd) ∧ w'.cell? ⟨g2, 1, none⟩ = some (.int .i64 xlo) ∧ w'.cell? ⟨g2, 2, none⟩ = some (.int .i64 xhi)) ∧ Below w7.heap.size w7 w') (first | exact S2 | exact S1 | exact ⟨S0.1, S0.2.drew⟩)
          (first | (go_at_call 11; first | (refine (HFX.out _ S1.2).mono ?_; rintro e w9 ⟨rfl, hb9⟩; have S2 := HSTEP.out w8 w9 S1 hb9) | (refine (HFY.out _ S0.2.drew).mono ?_; rintro e w8 ⟨rfl, hb8⟩; have S1 := HSTEP.out w7.drew w8 ⟨S0.1, S0.2.drew⟩ hb8)))
        all_goals
          go_wp2_with fail
          go_ret
          exact ⟨rfl, HBN.out _ S2.2⟩
  · have hneg' : 0 ≤ v := by omega
    have HNE := Lib.hid (show 0 ≤ v ∧ v ≤ 9223372036854775807 by omega)
    clear hv0 hv1
    go_upto_region 10 with (fail)
    generalize v = n at HNE ⊢
    have hn0 := HNE.out.1
    have hn9 := HNE.out.2
    clear HNE
    go_wp2_with fail
    go_loopw [10, 11] (fun t i wr => ∃ k : Nat, i = .int .i64 k ∧ (k : Int) ≤ n % 6 ∧ t = .string (semiB k) ∧ w3 = wr) (fun _ i _ => 6 - (RowKit.intOf i).toNat)
    case atStart => exact ⟨0, rfl, by omega, rfl, rfl⟩
    case round =>
      obtain ⟨k, rfl, hk, rfl, rfl⟩ := hrel
      by_cases hlt : (k : Int) < n % 6
      · have hk5 : (semiB k).size ≤ 2000 := by rw [semiB_size]; omega
        have HSS := Lib.hid (semiB_snoc k)
        go_wp2_with fail
        go_roundw
        case rel => exact ⟨k + 1, by go_num, by omega, by rw [HSS.out], by first | rfl | trivial⟩
        case measure => simp [RowKit.intOf]; omega
      · have hge : n % 6 ≤ (k : Int) := by omega
        have hk6 : k ≤ 5 := by omega
        have HAB := Lib.hid (around_bytes s k)
        have HBB := Lib.hid (behind_bytes s)
        have hts := semiB_size k
        have hts' : (semiB k).size ≤ 10 := by omega
        have hs3 : (((semiB k ++ s) ++ ({ data := #[10] } : ByteArray)) ++ semiB k).size ≤ 2000 := by
          rw [ByteArray.size_append, ByteArray.size_append, ByteArray.size_append]; show (semiB k).size + s.size + 1 + (semiB k).size ≤ _; omega
        have hs4 : (s ++ ({ data := #[10, 59, 120] } : ByteArray)).size ≤ 2000 := by rw [ByteArray.size_append]; show s.size + 3 ≤ _; omega
        have HTS := Lib.hid hts
        obtain ⟨Ta, hTa, hSa⟩ := one_around k HT.out HX.out
        obtain ⟨Tb, hTb, hSb⟩ := one_behind HT.out HX.out
        rw [← HAB.out] at hTa
        rw [← HBB.out] at hTb
        have HTA := Lib.hid hTa; have HSA := Lib.hid hSa; have HTB := Lib.hid hTb; have HSB := Lib.hid hSb
        clear hTa hSa hTb hSb hts HAB HBB hlt hk
        generalize semiB k = tb at HTS HTA hts' hs3 ⊢
        go_wp2_with fail
        refine (HONE.out _ w3 hs3 HM3.out).mono ?_; rintro e w4 ⟨hb4, hcs⟩
        rcases hcs with ⟨hN, _⟩ | ⟨T2, hT2, hN, _⟩ | ⟨T2, y, hT2, hY, rfl, hyi⟩
        · rw [HTA.out] at hN; cases hN
        · rw [HTA.out] at hT2; cases hT2; exact absurd (by rw [HSA.out]; rfl) hN
        rw [HTA.out] at hT2; cases hT2
        rw [HSA.out] at hY
        have hyt : y.toks = x.toks.map (moved (2 * k)) := by simpa using hY.symm
        have HYT := Lib.hid hyt; have HYI := Lib.hid hyi
        have hst := st_moved HX0.out hyt
        have hyl : y.toks.length = L := by rw [hyt, List.length_map]; exact HL.out
        have hlo : y.lo = x.lo + (tb.size : Int) := by rw [hst.1, HTS.out]
        have hhi : y.hi = x.hi + (tb.size : Int) := by rw [hst.2, HTS.out]
        rw [hlo, hhi]
        rw [hyl]
        have HYL := Lib.hid hyl
        have HB4 := Lib.hid hb4
        have HM4 := Lib.hid ((hb4.cell (p := ⟨0, 0, none⟩) (Nat.lt_of_lt_of_le HW0.out HB03.out.size)).trans HM3.out)
        clear hyt hyi hst hyl hY hb4 hs3 hlo hhi
        have HB5 := Lib.hid ((Below.refl _ w4).alloc (Nat.le_refl _) (.cells #[.slice y.u L y.d, .int .i64 (x.lo + (tb.size : Int)), .int .i64 (x.hi + (tb.size : Int))] 35))
        go_wp2_with fail
        have y0 : (w4.alloc (.cells #[.slice y.u L y.d, .int .i64 (x.lo + (tb.size : Int)), .int .i64 (x.hi + (tb.size : Int))] 35)).cell? ⟨w4.heap.size, 0, none⟩ = some (.slice y.u L y.d) := World.cell?_alloc_new _ _ _ _
        have y1 : (w4.alloc (.cells #[.slice y.u L y.d, .int .i64 (x.lo + (tb.size : Int)), .int .i64 (x.hi + (tb.size : Int))] 35)).cell? ⟨w4.heap.size, 1, none⟩ = some (.int .i64 (x.lo + (tb.size : Int))) := World.cell?_alloc_new _ _ _ _
        have y2 : (w4.alloc (.cells #[.slice y.u L y.d, .int .i64 (x.lo + (tb.size : Int)), .int .i64 (x.hi + (tb.size : Int))] 35)).cell? ⟨w4.heap.size, 2, none⟩ = some (.int .i64 (x.hi + (tb.size : Int))) := World.cell?_alloc_new _ _ _ _
        have hz5 : w4.heap.size < (w4.alloc (.cells #[.slice y.u L y.d, .int .i64 (x.lo + (tb.size : Int)), .int .i64 (x.hi + (tb.size : Int))] 35)).heap.size := by simp
        generalize w4.alloc (.cells #[.slice y.u L y.d, .int .i64 (x.lo + (tb.size : Int)), .int .i64 (x.hi + (tb.size : Int))] 35) = w5 at HB5 y0 y1 y2 hz5 ⊢
        have HB35 := Lib.hid (HB4.out.step HB5.out HB4.out.size)
        have HM5 := Lib.hid ((HB35.out.cell (p := ⟨0, 0, none⟩) (Nat.lt_of_lt_of_le HW0.out HB03.out.size)).trans HM3.out)
        have HY := Lib.hid (And.intro y0 (And.intro y1 y2))
        clear y0 y1 y2
        refine (HONE.out _ w5 hs4 HM5.out).mono ?_; rintro e w6 ⟨hb6, hcs⟩
        rcases hcs with ⟨hN, _⟩ | ⟨T2, hT2, hN, rfl⟩ | ⟨T2, z, hT2, hZ, _⟩
        · rw [HTB.out] at hN; cases hN
        case inr.inr => rw [HTB.out] at hT2; cases hT2; exact absurd (by rw [hZ]; rfl) HSB.out
        have HB6 := Lib.hid hb6
        clear hb6 hT2 hN hs4
        go_upto_region 17 with (fail)
        have hb7 : Below w6.heap.size w6 (w6.alloc (.cells #[.slice none 0 0, .int .i64 0, .int .i64 0] 35)) := (Below.refl _ w6).alloc (Nat.le_refl _) _
        generalize w6.alloc (.cells #[.slice none 0 0, .int .i64 0, .int .i64 0] 35) = w7 at hb7 ⊢
        have HB57 := Lib.hid (HB6.out.step hb7 HB6.out.size)
        have HB37 := Lib.hid (HB35.out.step HB57.out HB35.out.size)
        have hp7 : w4.heap.size < w7.heap.size := Nat.lt_of_lt_of_le hz5 HB57.out.size
        have hq3 : w2.heap.size < w3.heap.size := HZ3.out
        have hq7 : w2.heap.size < w7.heap.size := Nat.lt_of_lt_of_le hq3 HB37.out.size
        have S0 : Six w7 w4.heap.size w2.heap.size y.u y.d (x.lo + (tb.size : Int)) (x.hi + (tb.size : Int)) x.u x.d x.lo x.hi L ∧ Below w7.heap.size w7 w7 := ⟨⟨⟨(HB57.out.cell (p := ⟨w4.heap.size, 0, none⟩) hz5).trans HY.out.1, (HB57.out.cell (p := ⟨w4.heap.size, 1, none⟩) hz5).trans HY.out.2.1, (HB57.out.cell (p := ⟨w4.heap.size, 2, none⟩) hz5).trans HY.out.2.2⟩,
          (HB37.out.cell (p := ⟨w2.heap.size, 0, none⟩) hq3).trans HA.out.1, (HB37.out.cell (p := ⟨w2.heap.size, 1, none⟩) hq3).trans HA.out.2.1, (HB37.out.cell (p := ⟨w2.heap.size, 2, none⟩) hq3).trans HA.out.2.2⟩, Below.refl _ _⟩
        have HSTEP := Lib.hid (show ∀ W W', (Six W w4.heap.size w2.heap.size y.u y.d (x.lo + (tb.size : Int)) (x.hi + (tb.size : Int)) x.u x.d x.lo x.hi L ∧ Below w7.heap.size w7 W) → Below W.heap.size W W' → (Six W' w4.heap.size w2.heap.size y.u y.d (x.lo + (tb.size : Int)) (x.hi + (tb.size : Int)) x.u x.d x.lo x.hi L ∧ Below w7.heap.size w7 W') from fun W W' h hb => ⟨h.1.step hb (Nat.lt_of_lt_of_le hp7 h.2.size) (Nat.lt_of_lt_of_le hq7 h.2.size), h.2.step hb h.2.size⟩)
        obtain ⟨FF, hF⟩ : ∃ FF : ByteArray, FF = ⟨(fieldsB x.toks).toArray⟩ := ⟨_, rfl⟩
        have HM7 := Lib.hid ((HB37.out.cell (p := ⟨0, 0, none⟩) (Nat.lt_of_lt_of_le HW0.out HB03.out.size)).trans HM3.out)
        have hw7 : 0 < w7.heap.size := Nat.lt_of_lt_of_le HW0.out (Nat.le_trans HB03.out.size HB37.out.size)
        have HFY := Lib.hid (show ∀ W, Below w7.heap.size w7 W → Calls Tryd.prog 11 #[.slice y.u L y.d] W fun e w' => e = .returned (.string FF) ∧ Below W.heap.size W w' from fun W hW => by
          have := HFI.out y.u y.toks L y.d W HYL.out (by omega) (((HYI.out.at.step HB5.out).step (HB57.out.step hW HB57.out.size)).off) (by rw [HYT.out]; intro q hq; obtain ⟨u, hu, rfl⟩ := List.mem_map.1 hq; exact HXT.out u hu) ((hW.cell (p := ⟨0, 0, none⟩) hw7).trans HM7.out)
          rw [HYT.out, fields_moved, ← hF] at this; exact this)
        have HFX := Lib.hid (show ∀ W, Below w7.heap.size w7 W → Calls Tryd.prog 11 #[.slice x.u L x.d] W fun e w' => e = .returned (.string FF) ∧ Below W.heap.size W w' from fun W hW => by
          have := HFI.out x.u x.toks L x.d W HL.out (by omega) (((HXI.out.at.step HB23.out).step (HB37.out.step hW HB37.out.size)).off) HXT.out ((hW.cell (p := ⟨0, 0, none⟩) hw7).trans HM7.out)
          rw [← hF] at this; exact this)
        have HBN := Lib.hid (show ∀ W, Below w7.heap.size w7 W → Below w.heap.size w W from fun W h => HB03.out.step (HB37.out.step h HB37.out.size) HB03.out.size)
        clear hF hb7 hw7 HM7 HB57 HB37 HB35 HB6 HB5 HB4 HY HA HYI HXI HYT HYL HX0 HL HXT HT HX HTA HSA HTB HSB HM3 HM4 HM5 HB03 HB23 HTS HONE HFI hz5 hp7 hq3 hq7 HZ3 HW0 HM
        generalize y.u = yu at S0 HFY HSTEP ⊢
        generalize y.d = yd at S0 HFY HSTEP ⊢
        generalize x.u = xu at S0 HFX HSTEP ⊢
        generalize x.d = xd at S0 HFX HSTEP ⊢
        generalize x.lo = xlo at S0 HSTEP hxl ⊢
        generalize x.hi = xhi at S0 HSTEP hxh ⊢
        generalize w4.heap.size = g4 at S0 HSTEP ⊢
        generalize w2.heap.size = g2 at S0 HSTEP ⊢
        have hxl0 := hxl.1; have hxl1 := hxl.2; have hxh0 := hxh.1; have hxh1 := hxh.2
        clear hxl hxh
        have q1 : IntKind.i64.wrap (xlo + (tb.size : Int)) = xlo + (tb.size : Int) := by rw [IntKind.wrap_i64]; omega
        have q2 : IntKind.i64.wrap (xhi + (tb.size : Int)) = xhi + (tb.size : Int) := by rw [IntKind.wrap_i64]; omega
        have q3 : (xlo + (tb.size : Int) == xlo + (tb.size : Int)) = true := by simp
        have q4 : (xhi + (tb.size : Int) == xhi + (tb.size : Int)) = true := by simp
        unfold Six at S0 HSTEP
        go_region_held3 (fun w' => ((w'.cell? ⟨g4, 0, none⟩ = some (.slice yu L yd) ∧ w'.cell? ⟨g4, 1, none⟩ = some (.int .i64 (xlo + (tb.size : Int))) ∧ w'.cell? ⟨g4, 2, none⟩ = some (.int .i64 (xhi + (tb.size : Int)))) ∧ w'.cell? ⟨g2, 0, none⟩ = some (.slice xu L xd) ∧ w'.cell? ⟨g2, 1, none⟩ = some (.int .i64 xlo) ∧ w'.cell? ⟨g2, 2, none⟩ = some (.int .i64 xhi)) ∧ Below w7.heap.size w7 w') (first | exact S2 | exact S1 | exact ⟨S0.1, S0.2.drew⟩)
          (first | (go_at_call 11; first | (refine (HFX.out _ S1.2).mono ?_; rintro e w9 ⟨rfl, hb9⟩; have S2 := HSTEP.out w8 w9 S1 hb9) | (refine (HFY.out _ S0.2.drew).mono ?_; rintro e w8 ⟨rfl, hb8⟩; have S1 := HSTEP.out w7.drew w8 ⟨S0.1, S0.2.drew⟩ hb8)))
        all_goals
          go_wp2_with fail
          go_ret
          exact ⟨rfl, HBN.out _ S2.2⟩

theorem one_early (s : ByteArray) (v : Int) (m : Int) (w : World) (h1 : (1500 : Int) < s.size) (_h2 : s.size ≤ 140737488351232) (hm : w.cell? ⟨0, 0, none⟩ = some (.int .i64 m)) :
    Calls Tryd.prog 8 #[.string s, .int .i64 v] w fun e w' => e = .returned (.bool true) ∧ Below w.heap.size w w' := by
  have HSH := Lib.hid (shown4_true m w hm)
  clear hm
  go_enter Tryd.func8, Tryd.ntmps8
  go_wp2_with fail
  refine HSH.out.mono ?_; rintro e w1 ⟨rfl, hb1⟩
  have HB1 := Lib.hid hb1
  clear hb1 HSH
  go_wp2_with fail
  go_ret
  exact ⟨rfl, HB1.out⟩

theorem one_ok (s : ByteArray) (v : Int) (m : Int) (w : World) (hv : -9223372036854775808 ≤ v ∧ v ≤ 9223372036854775807) (h2 : s.size ≤ 140737488351232) (hm : w.cell? ⟨0, 0, none⟩ = some (.int .i64 m)) :
    Calls Tryd.prog 8 #[.string s, .int .i64 v] w fun e w' => e = .returned (.bool true) ∧ Below w.heap.size w w' := by
  by_cases h : s.size ≤ 1500
  · exact one_walk s v m w h hv hm
  · exact one_early s v m w (by omega) h2 hm

set_option maxRecDepth 100000 in
theorem one_lifted (os : Os) (started : os.Started) (H : Type) (enc : TypeId × Value → H) :
    ReturnsInHanded {} Tryd.checked os 8 .any (fun w args => (Rows.splitOneSpec.pre enc Tryd.prog Tryd.f8 Rows.splitOneRow.domain false w args ∧ laidMetH Tryd.prog [("unicode/utf8.acceptRanges", Rows.laid_unicode_utf8_acceptRanges), ("unicode/utf8.first", Rows.laid_unicode_utf8_first)] w) ∧ sizedMet enc Tryd.prog Tryd.f8 (OpenSpec.ofChange Rows.splitOneSpec) false w args) (Rows.splitOneSpec.post enc Tryd.prog Tryd.f8 false true false false) := by
  refine handed_laid (C := Tryd.checked) (X := fun w _ => laidMetH Tryd.prog [("unicode/utf8.acceptRanges", Rows.laid_unicode_utf8_acceptRanges), ("unicode/utf8.first", Rows.laid_unicode_utf8_first)] w) (fun _ _ _ hh h => h.of_heap hh) own started (by kernel_rfl) Tryd.func8
    (ChangeSpec.witness_shaped (enc := enc) (C := Tryd.checked) (os := os) (X := fun w _ => laidMetH Tryd.prog [("unicode/utf8.acceptRanges", Rows.laid_unicode_utf8_acceptRanges), ("unicode/utf8.first", Rows.laid_unicode_utf8_first)] w) false (World.laidAll Tryd.prog os [("unicode/utf8.acceptRanges", Rows.laid_unicode_utf8_acceptRanges), ("unicode/utf8.first", Rows.laid_unicode_utf8_first)]) #[.string { data := #[] }, .int .i64 0] 8 (World.laidAll_os _ _ _) (World.shaped_of_ZipB (by kernel_rfl) (by kernel_rfl)) (by kernel_rfl) (by kernel_rfl) (by kernel_rfl)
      (by rw [MakeChecks.laidMetH_plain _ _ _ (by kernel_rfl)]; exact laidMet_laidAll _ (by kernel_rfl) (by kernel_rfl))) ?_
  intro W base args ds gs before hval0 hW hsz0 hsh hL
  obtain ⟨m, hm⟩ : ∃ m, W.cell? ⟨0, 0, none⟩ = some (.int .i64 m) := Tryd.laysM143.s1_3 W hsh
  have hsz : (DataW.weightsEach Tryd.prog (Tryd.f8.params.toList ++ Rows.splitOneSpec.plain.varTypes Tryd.prog) (ds ++ gs)).all (· ≤ reachBytes) = true := hsz0
  clear hsz0
  have hval : ∀ (j : Nat) t v, Tryd.f8.params[j]? = some t → args[j]? = some v → Value.okWide Tryd.prog W .any base t v := hval0
  have hW' := hW
  obtain ⟨p, q, hA0, hV, rfl, _, _⟩ := hW
  have hA : DataW.TrodAll enc Tryd.prog W 0 (fun _ => true) true Tryd.f8.params.toList args.toList ds p := hA0
  rw [Tryd.params8] at hA hval hsz
  obtain ⟨v0, v1, d0, d1, p0, p1, rfl, rfl, rfl, h0, h1⟩ := trodAll_two hA
  obtain ⟨rfl, rfl⟩ := trodVars_none hV
  obtain ⟨s, rfl, rfl, rfl, hl_s⟩ := Go.ChangeMaps.open_string Tryd.underlying9 (hval 0 9 v0 rfl rfl) h0
  have hz_s : s.size ≤ 140737488351232 := by have := sized_string hsz (j := 0) (t := 9) rfl rfl; rw [size_list] at this; exact this
  obtain ⟨v, rfl, rfl, rfl, wf_v⟩ := open_int Tryd.underlying3 (hval 1 3 v1 rfl rfl) h1
  have h_v := int_range wf_v
  refine (one_ok s v m W h_v hz_s hm).mono fun e W' ⟨he, hb⟩ => ?_
  subst he
  exact ⟨_, rfl, law_shut laidOut (by kernel_rfl) (by kernel_rfl) Tryd.underlying4 rfl hW' rfl hb⟩

theorem one_holds : Rows.SplitOneSaid :=
  OpenClaim.holds_of_wide 8 Tryd.f8 rfl rfl rfl rfl rfl rfl rfl ⟨rfl, rfl, rfl, rfl, rfl⟩ rfl rfl rfl rfl rfl (by kernel_rfl) Tryd.func8 (by kernel_rfl)
    (of_decide_eq_true (by kernel_rfl)) (by unfold Func.isWrapper; rw [if_neg (of_decide_eq_false (by kernel_rfl))]; exact ⟨rfl, rfl⟩)
    (fun os started H enc _ => one_lifted os started H enc)

theorem one_card : Rows.SplitOneCardSaid :=
  Claim7.holds_tied_plain_at .later [] [.data, .pinned] true _ false one_holds (fun _ h => by cases h) (by kernel_rfl) (fun _ h => by cases h) splitOne_row_tie rfl ⟨rfl, rfl⟩ (by kernel_rfl) rfl
    (fun f fn hf hfn => by
      obtain rfl : f = 8 := Option.some.inj ((show Tryd.prog.funcNamed "taxirank/taxiranklaw4.SplitOne" = some 8 by kernel_rfl).symm.trans hf) |>.symm
      obtain rfl : fn = Tryd.f8 := (Option.some.inj (Tryd.func8.symm.trans hfn)).symm
      exact ⟨by kernel_rfl, fun j t ht => by
        rw [Tryd.params8] at ht
        have hm : t ∈ [9, 3] := by simpa using Array.mem_of_getElem? ht
        have hall : ([9, 3].all fun u => !Tryd.prog.wantsStandIn u) = true := by kernel_rfl
        exact (show Tryd.prog.wantsStandIn t = false by simpa using List.all_eq_true.1 hall t hm)⟩)
    (by kernel_rfl)
end Go.Proofs.YtckimeikiakfcaaDoor
