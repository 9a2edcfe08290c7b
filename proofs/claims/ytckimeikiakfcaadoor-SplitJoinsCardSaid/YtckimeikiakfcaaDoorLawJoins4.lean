/- The statements of two texts, with a sign between, are those of both, and each of them, cut out, is the one statement that is there: SplitJoins answers true, and leaves what was there as it was. (Over the listed variables, tied to the program's text.) -/
import Derived.Test.YtckimeikiakfcaaDoorCard
import Derived.Test.YtckimeikiakfcaaDoorJoinsM
import Derived.Test.YtckimeikiakfcaaDoorOne
import Derived.Test.YtckimeikiakfcaaDoorShown4
import Derived.Test.YtckimeikiakfcaaDoorFieldsA
import Derived.BigQuiet
import Derived.WalkSmall
import Derived.Deep.QuietTactic
namespace Go.Proofs.YtckimeikiakfcaaDoor
open Go.RowKit Go.Lib Go.WideShapes Go.ChangeShapes Go.ChangeAt Go.Joins

/-- A statement, cut out, is the one that is there. -/
def Cut (W : ByteArray) (y : St) : Prop := ∃ X0, tokens (bytes W) = some X0 ∧ splits X0 = [X0] ∧ X0.map kt = y.toks.map kt ∧ (∀ z : St, z.toks = X0 → z.lo = 0 ∧ z.hi = (W.size : Int)) ∧ y.toks.length ≤ 1900 ∧ ∀ q ∈ y.toks, q.text.length ≤ 1900

theorem pick_left {xa xc : List St} {P Q : List (List Tok)} (ha : xa.map St.toks = P) (hc : xc.map St.toks = P ++ Q) {k : Nat} {x y : St} (hx : xa[k]? = some x) (hy : xc[k]? = some y) : y.toks = x.toks ∧ x.toks ∈ P := by
  have h1 : P[k]? = some x.toks := by rw [← ha, List.getElem?_map, hx]; rfl
  have h2 : (P ++ Q)[k]? = some y.toks := by rw [← hc, List.getElem?_map, hy]; rfl
  have hl := (List.getElem?_eq_some_iff.1 h1).1
  rw [List.getElem?_append_left hl, h1] at h2
  exact ⟨(Option.some.inj h2).symm, List.mem_of_getElem? h1⟩
theorem pick_right {xb xc : List St} {P Q : List (List Tok)} {d na : Nat} (hb : xb.map St.toks = Q) (hc : xc.map St.toks = P ++ Q.map (List.map (moved d))) (hP : P.length = na) {k : Nat} (hk : na ≤ k) {x y : St} (hx : xb[k - na]? = some x) (hy : xc[k]? = some y) : y.toks = x.toks.map (moved d) ∧ x.toks ∈ Q := by
  have h1 : Q[k - na]? = some x.toks := by rw [← hb, List.getElem?_map, hx]; rfl
  have h2 : (P ++ Q.map (List.map (moved d)))[k]? = some y.toks := by rw [← hc, List.getElem?_map, hy]; rfl
  rw [List.getElem?_append_right (by omega), hP, List.getElem?_map, h1] at h2
  exact ⟨(Option.some.inj h2).symm, List.mem_of_getElem? h1⟩

theorem cut_any {s : ByteArray} {T : List Tok} (hs : s.size ≤ 1900) (h : tokens (bytes s) = some T) {x y : St} (hx : x.toks ∈ splits T) (hk : y.toks.map kt = x.toks.map kt) : ∃ lo hi : Nat, x.lo = lo ∧ x.hi = hi ∧ lo < hi ∧ hi ≤ s.size ∧ Cut (s.extract lo hi) y := by
  obtain ⟨lo, hi, h1, h2, h3, h4, h5, h6, X0, h7, h8, h9, h10⟩ := cut_st h hx
  rw [bytes_len] at h4 h5 h6
  have hl : y.toks.length = x.toks.length := by have := congrArg List.length hk; rw [List.length_map, List.length_map] at this; exact this
  refine ⟨lo, hi, h1, h2, h3, h4, X0, by rw [bytes_cut]; exact h7, h8, h9.trans hk.symm, fun z hz => ?_, by omega, fun q hq => ?_⟩
  · have := h10 z hz
    rw [ByteArray.size_extract, Nat.min_eq_left h4]
    exact this
  · have : kt q ∈ x.toks.map kt := by rw [← hk]; exact List.mem_map_of_mem hq
    obtain ⟨u, hu, e⟩ := List.mem_map.1 this
    have := h6 u hu
    rw [show u.text = q.text from congrArg Prod.snd e] at this
    omega

theorem ready_left {s t : ByteArray} {TA : List Tok} (hs : s.size + t.size ≤ 1900) (hA : tokens (bytes s) = some TA) {x y : St} (hx : x.toks ∈ splits TA) (hy : y.toks = x.toks) : ∃ lo hi : Nat, x.lo = lo ∧ x.hi = hi ∧ lo < hi ∧ hi ≤ s.size ∧ y.lo = lo ∧ y.hi = hi ∧ ((s ++ ({ data := #[10, 59] } : ByteArray)) ++ t).extract lo hi = s.extract lo hi ∧ Cut (s.extract lo hi) y := by
  obtain ⟨lo, hi, h1, h2, h3, h4, h5⟩ := cut_any (by omega) hA hx (y := y) (by rw [hy])
  exact ⟨lo, hi, h1, h2, h3, h4, by rw [← h1]; unfold St.lo; rw [hy], by rw [← h2]; unfold St.hi; rw [hy], cut_left s t lo hi h4, h5⟩
theorem ready_right {s t : ByteArray} {TB : List Tok} (hs : s.size + t.size ≤ 1900) (hB : tokens (bytes t) = some TB) {x y : St} (hx : x.toks ∈ splits TB) (hy : y.toks = x.toks.map (moved (s.size + 2))) : ∃ lo hi : Nat, x.lo = lo ∧ x.hi = hi ∧ lo < hi ∧ hi ≤ t.size ∧ y.lo = ((lo + (s.size + 2) : Nat) : Int) ∧ y.hi = ((hi + (s.size + 2) : Nat) : Int) ∧ ((s ++ ({ data := #[10, 59] } : ByteArray)) ++ t).extract (lo + (s.size + 2)) (hi + (s.size + 2)) = t.extract lo hi ∧ Cut (t.extract lo hi) y := by
  obtain ⟨lo, hi, h1, h2, h3, h4, h5⟩ := cut_any (by omega) hB hx (y := y) (by rw [hy, List.map_map]; rfl)
  have h0 : x.toks ≠ [] := (splits_mem _ TB (Nat.le_refl _) _ hx).1
  have hm := st_moved h0 hy
  exact ⟨lo, hi, h1, h2, h3, h4, by rw [hm.1, h1]; omega, by rw [hm.2, h2]; omega, cut_right s t lo hi, h5⟩

theorem small_kt {A B : List Tok} (h : A.map kt = B.map kt) (hB : ∀ q ∈ B, q.text.length ≤ 1900) : ∀ q ∈ A, q.text.length ≤ 2000 := by
  intro q hq
  have : kt q ∈ B.map kt := by rw [← h]; exact List.mem_map_of_mem hq
  obtain ⟨u, hu, e⟩ := List.mem_map.1 this
  have := hB u hu
  rw [show u.text = q.text from congrArg Prod.snd e] at this
  omega

set_option maxRecDepth 100000 in
set_option maxHeartbeats 16000000 in
theorem joins_walk (s t : ByteArray) (m : Int) (w : World) (hs : s.size + t.size ≤ 1900) (hm : w.cell? ⟨0, 0, none⟩ = some (.int .i64 m)) :
    Calls Tryd.prog 5 #[.string s, .string t] w fun e w' => e = .returned (.bool true) ∧ Below w.heap.size w w' := by
  have HM := Lib.hid hm
  have HW0 := Lib.hid (World.block_lt_of_cell? w ⟨0, 0, none⟩ hm)
  have HSH := Lib.hid (shown4_true m w hm)
  have HSP := Lib.hid (fun (S : ByteArray) (W : World) h1 h2 => split_any S m W h1 h2)
  have HONE := Lib.hid (fun (S : ByteArray) (W : World) h1 h2 => one_any S m W h1 h2)
  have HFI := Lib.hid (fun p T n c W h1 h2 h3 h4 h5 => fields_any p T n c m W h1 h2 h3 h4 h5)
  clear hm
  go_enter Tryd.func5, Tryd.ntmps5
  go_wp2_with fail
  refine HSH.out.mono ?_; rintro e w1 ⟨rfl, hb1⟩
  have HB1 := Lib.hid hb1
  have HM1 := Lib.hid ((hb1.cell (p := ⟨0, 0, none⟩) HW0.out).trans HM.out)
  clear hb1 HSH
  go_wp2_with fail
  refine (HSP.out s w1 (by omega) HM1.out).mono ?_; rintro e w2 ⟨hb2, hcs⟩
  have HB2 := Lib.hid (HB1.out.step hb2 HB1.out.size)
  have HM2 := Lib.hid ((HB2.out.cell (p := ⟨0, 0, none⟩) HW0.out).trans HM.out)
  clear hb2
  rcases hcs with ⟨hN, rfl⟩ | ⟨TA, xa, na, pa, ca, hTA, hxa, hna, hna1, hnac, rfl, hsta, hina⟩
  · go_wp2_with fail
    refine (HSP.out t w2 (by omega) HM2.out).mono ?_; rintro e w3 ⟨hb3, hcs⟩
    have HB3 := Lib.hid (HB2.out.step hb3 HB2.out.size)
    rcases hcs with ⟨_, rfl⟩ | ⟨TB, xb, nb, pb, cb, _, _, _, _, _, rfl, _, _⟩ <;>
    · go_wp2_with fail
      go_ret
      exact ⟨rfl, HB3.out⟩
  have HTA := Lib.hid hTA; have HXA := Lib.hid hxa; have HNA := Lib.hid hna; have HSTA := Lib.hid hsta
  clear hTA hxa hna hsta hina
  go_wp2_with fail
  refine (HSP.out t w2 (by omega) HM2.out).mono ?_; rintro e w3 ⟨hb3, hcs⟩
  have HB3 := Lib.hid (HB2.out.step hb3 HB2.out.size)
  have HM3 := Lib.hid ((HB3.out.cell (p := ⟨0, 0, none⟩) HW0.out).trans HM.out)
  have HSTA3 := Lib.hid (HSTA.out.step hb3)
  clear hb3 HSTA
  rcases hcs with ⟨_, rfl⟩ | ⟨TB, xb, nb, pb, cb, hTB, hxb, hnb, hnb1, hnbc, rfl, hstb, hinb⟩
  · go_wp2_with fail
    go_ret
    exact ⟨rfl, HB3.out⟩
  have HTB := Lib.hid hTB; have HXB := Lib.hid hxb; have HNB := Lib.hid hnb; have HSTB := Lib.hid hstb
  clear hTB hxb hnb hstb hinb
  obtain ⟨TC, hTC, hSC⟩ := joins_all HTA.out HTB.out
  rw [← joins_bytes] at hTC
  have HTC := Lib.hid hTC; have HSC := Lib.hid hSC
  clear hTC hSC
  have hsz3 : ((s ++ ({ data := #[10, 59] } : ByteArray)) ++ t).size ≤ 2000 := by rw [ByteArray.size_append, ByteArray.size_append]; show s.size + 2 + t.size ≤ _; omega
  have HSZ3 := Lib.hid hsz3
  clear hsz3
  go_wp2_with fail
  refine (HSP.out ((s ++ ({ data := #[10, 59] } : ByteArray)) ++ t) w3 HSZ3.out HM3.out).mono ?_; rintro e w4 ⟨hb4, hcs⟩
  rcases hcs with ⟨hN, _⟩ | ⟨T2, xc, nc, pc, cc, hT2, hxc, hnc, hnc1, hncc, rfl, hstc, hinc⟩
  · rw [HTC.out] at hN; cases hN
  rw [HTC.out] at hT2; cases hT2
  rw [HSC.out] at hxc
  have hlen : nc = na + nb := by
    have h1 := congrArg List.length hxc
    have h2 := congrArg List.length HXA.out
    have h3 := congrArg List.length HXB.out
    rw [List.length_append, List.length_map, List.length_map] at h1
    rw [List.length_map] at h2 h3
    rw [← HNA.out, ← HNB.out, ← hnc]; omega
  have hle1 : (nc : Int) ≤ na + nb := by omega
  have hle2 : (na : Int) + nb ≤ nc := by omega
  have HB4 := Lib.hid (HB3.out.step hb4 HB3.out.size)
  have HSTA4 := Lib.hid (HSTA3.out.step hb4)
  have HSTB4 := Lib.hid (HSTB.out.step hb4)
  have HXC := Lib.hid hxc; have HNC := Lib.hid hnc; have HSTC := Lib.hid hstc; have HINC := Lib.hid hinc; have HLEN := Lib.hid hlen
  have HM4 := Lib.hid ((HB4.out.cell (p := ⟨0, 0, none⟩) HW0.out).trans HM.out)
  have hw4 : 0 < w4.heap.size := Nat.lt_of_lt_of_le HW0.out HB4.out.size
  have HW4 := Lib.hid hw4
  clear hb4 hxc hnc hstc hinc hlen HSTA3 HSTB HM1 HM2 HM3 HB1 HB2 HB3 HSP HTC HSC hw4
  go_wp2_with fail
  clear hle1 hle2
  rename_i hdrop _ _
  clear hdrop
  go_loopw [12] (fun i wr => ∃ k : Nat, i = .int .i64 k ∧ k ≤ nc ∧ Below w4.heap.size w4 wr) (fun i _ => nc - (RowKit.intOf i).toNat)
  case atStart => exact ⟨0, rfl, Nat.zero_le _, Below.refl _ _⟩
  case round =>
    obtain ⟨k, rfl, hk, hBk⟩ := hrel
    have HBK := Lib.hid hBk
    clear hBk
    by_cases hlt : k < nc
    · have hlt' : (k : Int) < nc := by omega
      obtain ⟨y, hy⟩ : ∃ y, xc[k]? = some y := ⟨_, List.getElem?_eq_getElem (by rw [HNC.out]; exact hlt)⟩
      obtain ⟨gc, rfl, hgc, c0, c1, c2⟩ := HSTC.out k y hy
      have HYI := Lib.hid (HINC.out y (List.mem_of_getElem? hy))
      have HY := Lib.hid hy
      have HC0 := Lib.hid c0; have HC1 := Lib.hid c1; have HC2 := Lib.hid c2
      have HGC := Lib.hid hgc
      clear c0 c1 c2 hy hgc
      by_cases hka : k < na
      · have hka' : (k : Int) < na := by omega
        obtain ⟨x, hx⟩ : ∃ x, xa[k]? = some x := ⟨_, List.getElem?_eq_getElem (by rw [HNA.out]; exact hka)⟩
        obtain ⟨ga, rfl, hga, a0, a1, a2⟩ := HSTA4.out k x hx
        obtain ⟨ht, hmem⟩ := pick_left HXA.out HXC.out hx HY.out
        obtain ⟨lo, hi, hlo, hhi, hlh, hhs, hylo, hyhi, hex, hcut⟩ := ready_left (t := t) hs HTA.out hmem ht
        have a1' := (HBK.out.cell (p := ⟨ga, k * 3 + 1, none⟩) hga).trans a1
        have a2' := (HBK.out.cell (p := ⟨ga, k * 3 + 2, none⟩) hga).trans a2
        rw [hlo] at a1'
        rw [hhi] at a2'
        have hlo9 : (lo : Int) ≤ hi := by omega
        have hhi9 : (hi : Int) ≤ s.size := by omega
        have HYLO := Lib.hid hylo; have HYHI := Lib.hid hyhi; have HEX := Lib.hid hex; have HCUT := Lib.hid hcut
        have HH9 := Lib.hid (show lo ≤ hi ∧ hi ≤ ((s ++ ({ data := #[10, 59] } : ByteArray)) ++ t).size by rw [ByteArray.size_append, ByteArray.size_append]; omega)
        have HWS := Lib.hid (show (s.extract lo hi).size ≤ 2000 by rw [ByteArray.size_extract]; omega)
        clear hx a0 a1 a2 ht hmem hlo hhi hylo hyhi hex hcut hlh hhs
        go_upto_region 16 with (fail)
        go_quiet (fail)
        go_upto_region 20 with (fail)
        generalize s.extract lo hi = W at HEX HCUT HWS ⊢
        have HB5 := Lib.hid (below_drewN HBK.out nq)
        generalize wr.drewN nq = w5 at HB5 ⊢
        have HM5 := Lib.hid ((HB5.out.cell (p := ⟨0, 0, none⟩) HW4.out).trans HM4.out)
        have HC5 := Lib.hid (And.intro ((HB5.out.cell (p := ⟨gc, k * 3, none⟩) HGC.out).trans HC0.out) (And.intro ((HB5.out.cell (p := ⟨gc, k * 3 + 1, none⟩) HGC.out).trans HC1.out) ((HB5.out.cell (p := ⟨gc, k * 3 + 2, none⟩) HGC.out).trans HC2.out)))
        obtain ⟨X0, hX0, hsX, hkX, hzX, hXl, hXt⟩ := HCUT.out
        obtain ⟨L, hL⟩ : ∃ L, y.toks.length = L := ⟨_, rfl⟩
        have hXL : X0.length = L := by have := congrArg List.length hkX; rw [List.length_map, List.length_map] at this; exact this.trans hL
        rw [hL] at hXl
        have HX0 := Lib.hid hX0; have HSX := Lib.hid hsX; have HKX := Lib.hid hkX; have HZX := Lib.hid hzX; have HXT := Lib.hid hXt; have HL := Lib.hid hL; have HXL := Lib.hid hXL
        clear hX0 hsX hkX hzX hXt hL hXL HCUT
        go_wp2_with fail
        refine (HONE.out W w5 HWS.out HM5.out).mono ?_; rintro e w6 ⟨hb6, hcs⟩
        rcases hcs with ⟨hN, _⟩ | ⟨T2, hT2, hN, _⟩ | ⟨T2, z, hT2, hZ, rfl, hzi⟩
        · rw [HX0.out] at hN; cases hN
        · rw [HX0.out] at hT2; cases hT2; exact absurd (by rw [HSX.out]; rfl) hN
        rw [HX0.out] at hT2; cases hT2
        rw [HSX.out] at hZ
        have hzt : z.toks = X0 := by simpa using hZ.symm
        obtain ⟨hzlo, hzhi⟩ := HZX.out z hzt
        have hzl : z.toks.length = L := by rw [hzt]; exact HXL.out
        rw [hzl, hzlo, hzhi]
        have HZT := Lib.hid hzt; have HZI := Lib.hid hzi
        have HB56 := Lib.hid hb6
        clear hzt hzi hzl hzlo hzhi hZ hb6
        go_upto_region 21 with (fail)
        have hb7 : Below w6.heap.size w6 (w6.alloc (Obj.cells #[.slice z.u L z.d, .int .i64 0, .int .i64 W.size] 35)) := (Below.refl _ w6).alloc (Nat.le_refl _) _
        have e0 : (w6.alloc (Obj.cells #[.slice z.u L z.d, .int .i64 0, .int .i64 W.size] 35)).cell? ⟨w6.heap.size, 0, none⟩ = some (.slice z.u L z.d) := World.cell?_alloc_new _ _ _ _
        have e1 : (w6.alloc (Obj.cells #[.slice z.u L z.d, .int .i64 0, .int .i64 W.size] 35)).cell? ⟨w6.heap.size, 1, none⟩ = some (.int .i64 0) := World.cell?_alloc_new _ _ _ _
        have e2 : (w6.alloc (Obj.cells #[.slice z.u L z.d, .int .i64 0, .int .i64 W.size] 35)).cell? ⟨w6.heap.size, 2, none⟩ = some (.int .i64 W.size) := World.cell?_alloc_new _ _ _ _
        have hz7 : w6.heap.size < (w6.alloc (Obj.cells #[.slice z.u L z.d, .int .i64 0, .int .i64 W.size] 35)).heap.size := by simp
        generalize w6.alloc (Obj.cells #[.slice z.u L z.d, .int .i64 0, .int .i64 W.size] 35) = w7 at hb7 e0 e1 e2 hz7 ⊢
        have HB57 := Lib.hid (HB56.out.step hb7 HB56.out.size)
        have HB47 := Lib.hid (HB5.out.step HB57.out HB5.out.size)
        have hgc5 : gc < w5.heap.size := Nat.lt_of_lt_of_le HGC.out HB5.out.size
        have hgc7 : gc < w7.heap.size := Nat.lt_of_lt_of_le hgc5 HB57.out.size
        have hc5 := HC5.out
        rw [HL.out, HYLO.out, HYHI.out] at hc5
        have S0 : ((w7.cell? ⟨w6.heap.size, 0, none⟩ = some (.slice z.u L z.d) ∧ w7.cell? ⟨w6.heap.size, 1, none⟩ = some (.int .i64 0) ∧ w7.cell? ⟨w6.heap.size, 2, none⟩ = some (.int .i64 W.size)) ∧ w7.cell? ⟨gc, k * 3, none⟩ = some (.slice y.u L y.d) ∧ w7.cell? ⟨gc, k * 3 + 1, none⟩ = some (.int .i64 lo) ∧ w7.cell? ⟨gc, k * 3 + 2, none⟩ = some (.int .i64 hi)) ∧ Below w7.heap.size w7 w7 := ⟨⟨⟨e0, e1, e2⟩, (HB57.out.cell (p := ⟨gc, k * 3, none⟩) hgc5).trans hc5.1, (HB57.out.cell (p := ⟨gc, k * 3 + 1, none⟩) hgc5).trans hc5.2.1, (HB57.out.cell (p := ⟨gc, k * 3 + 2, none⟩) hgc5).trans hc5.2.2⟩, Below.refl _ _⟩
        have HSTEP := Lib.hid (show ∀ V V', (((V.cell? ⟨w6.heap.size, 0, none⟩ = some (.slice z.u L z.d) ∧ V.cell? ⟨w6.heap.size, 1, none⟩ = some (.int .i64 0) ∧ V.cell? ⟨w6.heap.size, 2, none⟩ = some (.int .i64 W.size)) ∧ V.cell? ⟨gc, k * 3, none⟩ = some (.slice y.u L y.d) ∧ V.cell? ⟨gc, k * 3 + 1, none⟩ = some (.int .i64 lo) ∧ V.cell? ⟨gc, k * 3 + 2, none⟩ = some (.int .i64 hi)) ∧ Below w7.heap.size w7 V) → Below V.heap.size V V' → (((V'.cell? ⟨w6.heap.size, 0, none⟩ = some (.slice z.u L z.d) ∧ V'.cell? ⟨w6.heap.size, 1, none⟩ = some (.int .i64 0) ∧ V'.cell? ⟨w6.heap.size, 2, none⟩ = some (.int .i64 W.size)) ∧ V'.cell? ⟨gc, k * 3, none⟩ = some (.slice y.u L y.d) ∧ V'.cell? ⟨gc, k * 3 + 1, none⟩ = some (.int .i64 lo) ∧ V'.cell? ⟨gc, k * 3 + 2, none⟩ = some (.int .i64 hi)) ∧ Below w7.heap.size w7 V') from fun V V' h hb => by
          have hp := Nat.lt_of_lt_of_le hz7 h.2.size
          have hq := Nat.lt_of_lt_of_le hgc7 h.2.size
          exact ⟨⟨⟨(hb.cell (p := ⟨w6.heap.size, 0, none⟩) hp).trans h.1.1.1, (hb.cell (p := ⟨w6.heap.size, 1, none⟩) hp).trans h.1.1.2.1, (hb.cell (p := ⟨w6.heap.size, 2, none⟩) hp).trans h.1.1.2.2⟩, (hb.cell (p := ⟨gc, k * 3, none⟩) hq).trans h.1.2.1, (hb.cell (p := ⟨gc, k * 3 + 1, none⟩) hq).trans h.1.2.2.1, (hb.cell (p := ⟨gc, k * 3 + 2, none⟩) hq).trans h.1.2.2.2⟩, h.2.step hb h.2.size⟩)
        obtain ⟨FF, hF⟩ : ∃ FF : ByteArray, FF = ⟨(fieldsB y.toks).toArray⟩ := ⟨_, rfl⟩
        have HM7 := Lib.hid ((HB47.out.cell (p := ⟨0, 0, none⟩) HW4.out).trans HM4.out)
        have hw7 : 0 < w7.heap.size := Nat.lt_of_lt_of_le HW4.out HB47.out.size
        have HFZ := Lib.hid (show ∀ V, Below w7.heap.size w7 V → Calls Tryd.prog 11 #[.slice z.u L z.d] V fun e w' => e = .returned (.string FF) ∧ Below V.heap.size V w' from fun V hV => by
          have := HFI.out z.u z.toks L z.d V (by rw [HZT.out]; exact HXL.out) (by omega) (((HZI.out.at.step hb7).step hV).off) (by rw [HZT.out]; exact small_kt HKX.out HXT.out) ((hV.cell (p := ⟨0, 0, none⟩) hw7).trans HM7.out)
          rw [HZT.out, fieldsB_kt X0 y.toks HKX.out, ← hF] at this; exact this)
        have HFY := Lib.hid (show ∀ V, Below w7.heap.size w7 V → Calls Tryd.prog 11 #[.slice y.u L y.d] V fun e w' => e = .returned (.string FF) ∧ Below V.heap.size V w' from fun V hV => by
          have := HFI.out y.u y.toks L y.d V HL.out (by omega) ((HYI.out.at.step (HB47.out.step hV HB47.out.size)).off) (small_kt rfl HXT.out) ((hV.cell (p := ⟨0, 0, none⟩) hw7).trans HM7.out)
          rw [← hF] at this; exact this)
        have HBN := Lib.hid (show ∀ V, Below w7.heap.size w7 V → Below w4.heap.size w4 V from fun V h => HB47.out.step h HB47.out.size)
        have hhl := HH9.out.1
        have hhs := HH9.out.2
        have hws := HWS.out
        have hex := HEX.out
        have hlh : (lo : Int) ≤ hi := by omega
        clear hF hb7 hw7 HM7 HB57 HB47 HB56 HZI HZT HYI HX0 HSX HKX HZX HXT HXL HL hz7 hgc5 hgc7 e0 e1 e2 HC5 hc5 HM5 HH9 HWS HEX HYLO HYHI HC0 HC1 HC2 HGC HB5 HY HSTA4 HSTB4 HXA HXB HXC HNA HNB HNC HSTC HINC HTA HTB HFI HONE HLEN hhl a1' a2' hlo9 hhi9
        generalize z.u = zu at S0 HFZ HSTEP ⊢
        generalize z.d = zd at S0 HFZ HSTEP ⊢
        generalize y.u = yu at S0 HFY HSTEP ⊢
        generalize y.d = yd at S0 HFY HSTEP ⊢
        generalize w6.heap.size = g6 at S0 HSTEP ⊢
        have hhs9 : (hi : Int) ≤ ((s ++ ({ data := #[10, 59] } : ByteArray)) ++ t).size := by omega
        have hhs8 : (hi : Int) ≤ s.size + 2 + t.size := by rw [ByteArray.size_append, ByteArray.size_append] at hhs; have : ({ data := #[10, 59] } : ByteArray).size = 2 := rfl; omega
        have q2 : ((L : Int) != (L : Int)) = false := by simp
        have q3 : ((W.size : Int) != (W.size : Int)) = false := by simp
        go_region_held3 (fun w' => ((w'.cell? ⟨g6, 0, none⟩ = some (.slice zu L zd) ∧ w'.cell? ⟨g6, 1, none⟩ = some (.int .i64 0) ∧ w'.cell? ⟨g6, 2, none⟩ = some (.int .i64 W.size)) ∧ w'.cell? ⟨gc, k * 3, none⟩ = some (.slice yu L yd) ∧ w'.cell? ⟨gc, k * 3 + 1, none⟩ = some (.int .i64 lo) ∧ w'.cell? ⟨gc, k * 3 + 2, none⟩ = some (.int .i64 hi)) ∧ Below w7.heap.size w7 w') (first | exact S2 | exact S1 | exact ⟨S0.1, S0.2.drew⟩)
          (first | (go_at_call 11; first | (refine (HFY.out _ S1.2).mono ?_; rintro e w9 ⟨rfl, hb9⟩; have S2 := HSTEP.out w8 w9 S1 hb9) | (refine (HFZ.out _ S0.2.drew).mono ?_; rintro e w8 ⟨rfl, hb8⟩; have S1 := HSTEP.out w7.drew w8 ⟨S0.1, S0.2.drew⟩ hb8)))
        all_goals
          go_wp2_with fail
          go_roundw
          case rel => exact ⟨k + 1, by go_num, by omega, HBN.out _ S2.2⟩
          case measure => simp [RowKit.intOf]; omega
      · have hka' : (na : Int) ≤ k := by omega
        obtain ⟨x, hx⟩ : ∃ x, xb[k - na]? = some x := ⟨_, List.getElem?_eq_getElem (by rw [HNB.out]; have := HLEN.out; omega)⟩
        obtain ⟨gb, rfl, hgb, a0, a1, a2⟩ := HSTB4.out (k - na) x hx
        obtain ⟨ht, hmem⟩ := pick_right HXB.out HXC.out (by have h2 := congrArg List.length HXA.out; rw [List.length_map, HNA.out] at h2; exact h2.symm) (by omega) hx HY.out
        obtain ⟨lo0, hi0, hlo, hhi, hlh, hhs, hylo, hyhi, hex, hcut⟩ := ready_right (s := s) hs HTB.out hmem ht
        have a0' := (HBK.out.cell (p := ⟨gb, (k - na) * 3, none⟩) hgb).trans a0
        have a1' := (HBK.out.cell (p := ⟨gb, (k - na) * 3 + 1, none⟩) hgb).trans a1
        have a2' := (HBK.out.cell (p := ⟨gb, (k - na) * 3 + 2, none⟩) hgb).trans a2
        rw [hlo] at a1'
        rw [hhi] at a2'
        have hlo9 : (lo0 : Int) ≤ hi0 := by omega
        have hhi9 : (hi0 : Int) ≤ t.size := by omega
        have HH9 := Lib.hid (show lo0 + (s.size + 2) ≤ hi0 + (s.size + 2) ∧ hi0 + (s.size + 2) ≤ ((s ++ ({ data := #[10, 59] } : ByteArray)) ++ t).size by rw [ByteArray.size_append, ByteArray.size_append]; show _ ∧ _ ≤ s.size + 2 + t.size; omega)
        generalize lo0 + (s.size + 2) = lo at hylo hex HH9
        generalize hi0 + (s.size + 2) = hi at hyhi hex HH9
        have HYLO := Lib.hid hylo; have HYHI := Lib.hid hyhi; have HEX := Lib.hid hex; have HCUT := Lib.hid hcut
        have HWS := Lib.hid (show (t.extract lo0 hi0).size ≤ 2000 by rw [ByteArray.size_extract]; omega)
        have hidx : ((k : Int) - na).toNat = k - na := by omega
        have hkb : (k : Int) - na < nb := by have := HLEN.out; omega
        have hkb0 : 0 ≤ (k : Int) - na := by omega
        clear hx a0 a1 a2 ht hmem hlo hhi hylo hyhi hex hcut hlh hhs
        go_upto_region 20 with (fail)
        generalize t.extract lo0 hi0 = W at HEX HCUT HWS ⊢
        have HB5 := Lib.hid (HBK.out.alloc HBK.out.size (Obj.cells #[.slice x.u x.toks.length x.d, .int .i64 lo0, .int .i64 hi0] 35))
        generalize wr.alloc (Obj.cells #[.slice x.u x.toks.length x.d, .int .i64 lo0, .int .i64 hi0] 35) = w5 at HB5 ⊢
        have HM5 := Lib.hid ((HB5.out.cell (p := ⟨0, 0, none⟩) HW4.out).trans HM4.out)
        have HC5 := Lib.hid (And.intro ((HB5.out.cell (p := ⟨gc, k * 3, none⟩) HGC.out).trans HC0.out) (And.intro ((HB5.out.cell (p := ⟨gc, k * 3 + 1, none⟩) HGC.out).trans HC1.out) ((HB5.out.cell (p := ⟨gc, k * 3 + 2, none⟩) HGC.out).trans HC2.out)))
        obtain ⟨X0, hX0, hsX, hkX, hzX, hXl, hXt⟩ := HCUT.out
        obtain ⟨L, hL⟩ : ∃ L, y.toks.length = L := ⟨_, rfl⟩
        have hXL : X0.length = L := by have := congrArg List.length hkX; rw [List.length_map, List.length_map] at this; exact this.trans hL
        rw [hL] at hXl
        have HX0 := Lib.hid hX0; have HSX := Lib.hid hsX; have HKX := Lib.hid hkX; have HZX := Lib.hid hzX; have HXT := Lib.hid hXt; have HL := Lib.hid hL; have HXL := Lib.hid hXL
        clear hX0 hsX hkX hzX hXt hL hXL HCUT
        go_wp2_with fail
        refine (HONE.out W w5 HWS.out HM5.out).mono ?_; rintro e w6 ⟨hb6, hcs⟩
        rcases hcs with ⟨hN, _⟩ | ⟨T2, hT2, hN, _⟩ | ⟨T2, z, hT2, hZ, rfl, hzi⟩
        · rw [HX0.out] at hN; cases hN
        · rw [HX0.out] at hT2; cases hT2; exact absurd (by rw [HSX.out]; rfl) hN
        rw [HX0.out] at hT2; cases hT2
        rw [HSX.out] at hZ
        have hzt : z.toks = X0 := by simpa using hZ.symm
        obtain ⟨hzlo, hzhi⟩ := HZX.out z hzt
        have hzl : z.toks.length = L := by rw [hzt]; exact HXL.out
        rw [hzl, hzlo, hzhi]
        have HZT := Lib.hid hzt; have HZI := Lib.hid hzi
        have HB56 := Lib.hid hb6
        clear hzt hzi hzl hzlo hzhi hZ hb6
        go_upto_region 21 with (fail)
        have hb7 : Below w6.heap.size w6 (w6.alloc (Obj.cells #[.slice z.u L z.d, .int .i64 0, .int .i64 W.size] 35)) := (Below.refl _ w6).alloc (Nat.le_refl _) _
        have e0 : (w6.alloc (Obj.cells #[.slice z.u L z.d, .int .i64 0, .int .i64 W.size] 35)).cell? ⟨w6.heap.size, 0, none⟩ = some (.slice z.u L z.d) := World.cell?_alloc_new _ _ _ _
        have e1 : (w6.alloc (Obj.cells #[.slice z.u L z.d, .int .i64 0, .int .i64 W.size] 35)).cell? ⟨w6.heap.size, 1, none⟩ = some (.int .i64 0) := World.cell?_alloc_new _ _ _ _
        have e2 : (w6.alloc (Obj.cells #[.slice z.u L z.d, .int .i64 0, .int .i64 W.size] 35)).cell? ⟨w6.heap.size, 2, none⟩ = some (.int .i64 W.size) := World.cell?_alloc_new _ _ _ _
        have hz7 : w6.heap.size < (w6.alloc (Obj.cells #[.slice z.u L z.d, .int .i64 0, .int .i64 W.size] 35)).heap.size := by simp
        generalize w6.alloc (Obj.cells #[.slice z.u L z.d, .int .i64 0, .int .i64 W.size] 35) = w7 at hb7 e0 e1 e2 hz7 ⊢
        have HB57 := Lib.hid (HB56.out.step hb7 HB56.out.size)
        have HB47 := Lib.hid (HB5.out.step HB57.out HB5.out.size)
        have hgc5 : gc < w5.heap.size := Nat.lt_of_lt_of_le HGC.out HB5.out.size
        have hgc7 : gc < w7.heap.size := Nat.lt_of_lt_of_le hgc5 HB57.out.size
        have hc5 := HC5.out
        rw [HL.out, HYLO.out, HYHI.out] at hc5
        have S0 : ((w7.cell? ⟨w6.heap.size, 0, none⟩ = some (.slice z.u L z.d) ∧ w7.cell? ⟨w6.heap.size, 1, none⟩ = some (.int .i64 0) ∧ w7.cell? ⟨w6.heap.size, 2, none⟩ = some (.int .i64 W.size)) ∧ w7.cell? ⟨gc, k * 3, none⟩ = some (.slice y.u L y.d) ∧ w7.cell? ⟨gc, k * 3 + 1, none⟩ = some (.int .i64 lo) ∧ w7.cell? ⟨gc, k * 3 + 2, none⟩ = some (.int .i64 hi)) ∧ Below w7.heap.size w7 w7 := ⟨⟨⟨e0, e1, e2⟩, (HB57.out.cell (p := ⟨gc, k * 3, none⟩) hgc5).trans hc5.1, (HB57.out.cell (p := ⟨gc, k * 3 + 1, none⟩) hgc5).trans hc5.2.1, (HB57.out.cell (p := ⟨gc, k * 3 + 2, none⟩) hgc5).trans hc5.2.2⟩, Below.refl _ _⟩
        have HSTEP := Lib.hid (show ∀ V V', (((V.cell? ⟨w6.heap.size, 0, none⟩ = some (.slice z.u L z.d) ∧ V.cell? ⟨w6.heap.size, 1, none⟩ = some (.int .i64 0) ∧ V.cell? ⟨w6.heap.size, 2, none⟩ = some (.int .i64 W.size)) ∧ V.cell? ⟨gc, k * 3, none⟩ = some (.slice y.u L y.d) ∧ V.cell? ⟨gc, k * 3 + 1, none⟩ = some (.int .i64 lo) ∧ V.cell? ⟨gc, k * 3 + 2, none⟩ = some (.int .i64 hi)) ∧ Below w7.heap.size w7 V) → Below V.heap.size V V' → (((V'.cell? ⟨w6.heap.size, 0, none⟩ = some (.slice z.u L z.d) ∧ V'.cell? ⟨w6.heap.size, 1, none⟩ = some (.int .i64 0) ∧ V'.cell? ⟨w6.heap.size, 2, none⟩ = some (.int .i64 W.size)) ∧ V'.cell? ⟨gc, k * 3, none⟩ = some (.slice y.u L y.d) ∧ V'.cell? ⟨gc, k * 3 + 1, none⟩ = some (.int .i64 lo) ∧ V'.cell? ⟨gc, k * 3 + 2, none⟩ = some (.int .i64 hi)) ∧ Below w7.heap.size w7 V') from fun V V' h hb => by
          have hp := Nat.lt_of_lt_of_le hz7 h.2.size
          have hq := Nat.lt_of_lt_of_le hgc7 h.2.size
          exact ⟨⟨⟨(hb.cell (p := ⟨w6.heap.size, 0, none⟩) hp).trans h.1.1.1, (hb.cell (p := ⟨w6.heap.size, 1, none⟩) hp).trans h.1.1.2.1, (hb.cell (p := ⟨w6.heap.size, 2, none⟩) hp).trans h.1.1.2.2⟩, (hb.cell (p := ⟨gc, k * 3, none⟩) hq).trans h.1.2.1, (hb.cell (p := ⟨gc, k * 3 + 1, none⟩) hq).trans h.1.2.2.1, (hb.cell (p := ⟨gc, k * 3 + 2, none⟩) hq).trans h.1.2.2.2⟩, h.2.step hb h.2.size⟩)
        obtain ⟨FF, hF⟩ : ∃ FF : ByteArray, FF = ⟨(fieldsB y.toks).toArray⟩ := ⟨_, rfl⟩
        have HM7 := Lib.hid ((HB47.out.cell (p := ⟨0, 0, none⟩) HW4.out).trans HM4.out)
        have hw7 : 0 < w7.heap.size := Nat.lt_of_lt_of_le HW4.out HB47.out.size
        have HFZ := Lib.hid (show ∀ V, Below w7.heap.size w7 V → Calls Tryd.prog 11 #[.slice z.u L z.d] V fun e w' => e = .returned (.string FF) ∧ Below V.heap.size V w' from fun V hV => by
          have := HFI.out z.u z.toks L z.d V (by rw [HZT.out]; exact HXL.out) (by omega) (((HZI.out.at.step hb7).step hV).off) (by rw [HZT.out]; exact small_kt HKX.out HXT.out) ((hV.cell (p := ⟨0, 0, none⟩) hw7).trans HM7.out)
          rw [HZT.out, fieldsB_kt X0 y.toks HKX.out, ← hF] at this; exact this)
        have HFY := Lib.hid (show ∀ V, Below w7.heap.size w7 V → Calls Tryd.prog 11 #[.slice y.u L y.d] V fun e w' => e = .returned (.string FF) ∧ Below V.heap.size V w' from fun V hV => by
          have := HFI.out y.u y.toks L y.d V HL.out (by omega) ((HYI.out.at.step (HB47.out.step hV HB47.out.size)).off) (small_kt rfl HXT.out) ((hV.cell (p := ⟨0, 0, none⟩) hw7).trans HM7.out)
          rw [← hF] at this; exact this)
        have HBN := Lib.hid (show ∀ V, Below w7.heap.size w7 V → Below w4.heap.size w4 V from fun V h => HB47.out.step h HB47.out.size)
        have hhl := HH9.out.1
        have hhs := HH9.out.2
        have hws := HWS.out
        have hex := HEX.out
        have hlh : (lo : Int) ≤ hi := by omega
        clear hF hb7 hw7 HM7 HB57 HB47 HB56 HZI HZT HYI HX0 HSX HKX HZX HXT HXL HL hz7 hgc5 hgc7 e0 e1 e2 HC5 hc5 HM5 HH9 HWS HEX HYLO HYHI HC0 HC1 HC2 HGC HB5 HY HSTA4 HSTB4 HXA HXB HXC HNA HNB HNC HSTC HINC HTA HTB HFI HONE HLEN hhl a0' a1' a2' hlo9 hhi9 hidx hkb hkb0
        generalize z.u = zu at S0 HFZ HSTEP ⊢
        generalize z.d = zd at S0 HFZ HSTEP ⊢
        generalize y.u = yu at S0 HFY HSTEP ⊢
        generalize y.d = yd at S0 HFY HSTEP ⊢
        generalize w6.heap.size = g6 at S0 HSTEP ⊢
        have hhs9 : (hi : Int) ≤ ((s ++ ({ data := #[10, 59] } : ByteArray)) ++ t).size := by omega
        have hhs8 : (hi : Int) ≤ s.size + 2 + t.size := by rw [ByteArray.size_append, ByteArray.size_append] at hhs; have : ({ data := #[10, 59] } : ByteArray).size = 2 := rfl; omega
        have q2 : ((L : Int) != (L : Int)) = false := by simp
        have q3 : ((W.size : Int) != (W.size : Int)) = false := by simp
        go_region_held3 (fun w' => ((w'.cell? ⟨g6, 0, none⟩ = some (.slice zu L zd) ∧ w'.cell? ⟨g6, 1, none⟩ = some (.int .i64 0) ∧ w'.cell? ⟨g6, 2, none⟩ = some (.int .i64 W.size)) ∧ w'.cell? ⟨gc, k * 3, none⟩ = some (.slice yu L yd) ∧ w'.cell? ⟨gc, k * 3 + 1, none⟩ = some (.int .i64 lo) ∧ w'.cell? ⟨gc, k * 3 + 2, none⟩ = some (.int .i64 hi)) ∧ Below w7.heap.size w7 w') (first | exact S2 | exact S1 | exact ⟨S0.1, S0.2.drew⟩)
          (first | (go_at_call 11; first | (refine (HFY.out _ S1.2).mono ?_; rintro e w9 ⟨rfl, hb9⟩; have S2 := HSTEP.out w8 w9 S1 hb9) | (refine (HFZ.out _ S0.2.drew).mono ?_; rintro e w8 ⟨rfl, hb8⟩; have S1 := HSTEP.out w7.drew w8 ⟨S0.1, S0.2.drew⟩ hb8)))
        all_goals
          go_wp2_with fail
          go_roundw
          case rel => exact ⟨k + 1, by go_num, by omega, HBN.out _ S2.2⟩
          case measure => simp [RowKit.intOf]; omega
    · obtain rfl : k = nc := by omega
      go_wp2_with fail
      go_ret
      exact ⟨rfl, HB4.out.step HBK.out HB4.out.size⟩

set_option maxRecDepth 100000 in
theorem joins_early (s t : ByteArray) (m : Int) (w : World) (h1 : (1900 : Int) < s.size + t.size) (h2 : s.size ≤ 140737488351232) (h3 : t.size ≤ 140737488351232) (hm : w.cell? ⟨0, 0, none⟩ = some (.int .i64 m)) :
    Calls Tryd.prog 5 #[.string s, .string t] w fun e w' => e = .returned (.bool true) ∧ Below w.heap.size w w' := by
  have HSH := Lib.hid (shown4_true m w hm)
  clear hm
  go_enter Tryd.func5, Tryd.ntmps5
  go_wp2_with fail
  refine HSH.out.mono ?_; rintro e w1 ⟨rfl, hb1⟩
  have HB1 := Lib.hid hb1
  clear hb1 HSH
  go_wp2_with fail
  go_ret
  exact ⟨rfl, HB1.out⟩

theorem joins_ok (s t : ByteArray) (m : Int) (w : World) (h2 : s.size ≤ 140737488351232) (h3 : t.size ≤ 140737488351232) (hm : w.cell? ⟨0, 0, none⟩ = some (.int .i64 m)) :
    Calls Tryd.prog 5 #[.string s, .string t] w fun e w' => e = .returned (.bool true) ∧ Below w.heap.size w w' := by
  by_cases h : s.size + t.size ≤ 1900
  · exact joins_walk s t m w h hm
  · exact joins_early s t m w (by omega) h2 h3 hm

set_option maxRecDepth 100000 in
theorem joins_lifted (os : Os) (started : os.Started) (H : Type) (enc : TypeId × Value → H) :
    ReturnsInHanded {} Tryd.checked os 5 .any (fun w args => (Rows.splitJoinsSpec.pre enc Tryd.prog Tryd.f5 Rows.splitJoinsRow.domain false w args ∧ laidMetH Tryd.prog [("unicode/utf8.acceptRanges", Rows.laid_unicode_utf8_acceptRanges), ("unicode/utf8.first", Rows.laid_unicode_utf8_first)] w) ∧ sizedMet enc Tryd.prog Tryd.f5 (OpenSpec.ofChange Rows.splitJoinsSpec) false w args) (Rows.splitJoinsSpec.post enc Tryd.prog Tryd.f5 false true false false) := by
  refine handed_laid (C := Tryd.checked) (X := fun w _ => laidMetH Tryd.prog [("unicode/utf8.acceptRanges", Rows.laid_unicode_utf8_acceptRanges), ("unicode/utf8.first", Rows.laid_unicode_utf8_first)] w) (fun _ _ _ hh h => h.of_heap hh) own started (by kernel_rfl) Tryd.func5
    (ChangeSpec.witness_shaped (enc := enc) (C := Tryd.checked) (os := os) (X := fun w _ => laidMetH Tryd.prog [("unicode/utf8.acceptRanges", Rows.laid_unicode_utf8_acceptRanges), ("unicode/utf8.first", Rows.laid_unicode_utf8_first)] w) false (World.laidAll Tryd.prog os [("unicode/utf8.acceptRanges", Rows.laid_unicode_utf8_acceptRanges), ("unicode/utf8.first", Rows.laid_unicode_utf8_first)]) #[.string { data := #[] }, .string { data := #[] }] 8 (World.laidAll_os _ _ _) (World.shaped_of_ZipB (by kernel_rfl) (by kernel_rfl)) (by kernel_rfl) (by kernel_rfl) (by kernel_rfl)
      (by rw [MakeChecks.laidMetH_plain _ _ _ (by kernel_rfl)]; exact laidMet_laidAll _ (by kernel_rfl) (by kernel_rfl))) ?_
  intro W base args ds gs before hval0 hW hsz0 hsh hL
  obtain ⟨m, hm⟩ : ∃ m, W.cell? ⟨0, 0, none⟩ = some (.int .i64 m) := Tryd.laysM143.s1_3 W hsh
  have hsz : (DataW.weightsEach Tryd.prog (Tryd.f5.params.toList ++ Rows.splitJoinsSpec.plain.varTypes Tryd.prog) (ds ++ gs)).all (· ≤ reachBytes) = true := hsz0
  clear hsz0
  have hval : ∀ (j : Nat) t v, Tryd.f5.params[j]? = some t → args[j]? = some v → Value.okWide Tryd.prog W .any base t v := hval0
  have hW' := hW
  obtain ⟨p, q, hA0, hV, rfl, _, _⟩ := hW
  have hA : DataW.TrodAll enc Tryd.prog W 0 (fun _ => true) true Tryd.f5.params.toList args.toList ds p := hA0
  rw [Tryd.params5] at hA hval hsz
  obtain ⟨v0, v1, d0, d1, p0, p1, rfl, rfl, rfl, h0, h1⟩ := trodAll_two hA
  obtain ⟨rfl, rfl⟩ := trodVars_none hV
  obtain ⟨s, rfl, rfl, rfl, hl_s⟩ := Go.ChangeMaps.open_string Tryd.underlying9 (hval 0 9 v0 rfl rfl) h0
  have hz_s : s.size ≤ 140737488351232 := by have := sized_string hsz (j := 0) (t := 9) rfl rfl; rw [size_list] at this; exact this
  obtain ⟨t, rfl, rfl, rfl, hl_t⟩ := Go.ChangeMaps.open_string Tryd.underlying9 (hval 1 9 v1 rfl rfl) h1
  have hz_t : t.size ≤ 140737488351232 := by have := sized_string hsz (j := 1) (t := 9) rfl rfl; rw [size_list] at this; exact this
  refine (joins_ok s t m W hz_s hz_t hm).mono fun e W' ⟨he, hb⟩ => ?_
  subst he
  exact ⟨_, rfl, law_shut laidOut (by kernel_rfl) (by kernel_rfl) Tryd.underlying4 rfl hW' rfl hb⟩

theorem joins_holds : Rows.SplitJoinsSaid :=
  OpenClaim.holds_of_wide 5 Tryd.f5 rfl rfl rfl rfl rfl rfl rfl ⟨rfl, rfl, rfl, rfl, rfl⟩ rfl rfl rfl rfl rfl (by kernel_rfl) Tryd.func5 (by kernel_rfl)
    (of_decide_eq_true (by kernel_rfl)) (by unfold Func.isWrapper; rw [if_neg (of_decide_eq_false (by kernel_rfl))]; exact ⟨rfl, rfl⟩)
    (fun os started H enc _ => joins_lifted os started H enc)

theorem joins_card : Rows.SplitJoinsCardSaid :=
  Claim7.holds_tied_plain_at .later [] [.data, .pinned] true _ false joins_holds (fun _ h => by cases h) (by kernel_rfl) (fun _ h => by cases h) splitJoins_row_tie rfl ⟨rfl, rfl⟩ (by kernel_rfl) rfl
    (fun f fn hf hfn => by
      obtain rfl : f = 5 := Option.some.inj ((show Tryd.prog.funcNamed "taxirank/taxiranklaw4.SplitJoins" = some 5 by kernel_rfl).symm.trans hf) |>.symm
      obtain rfl : fn = Tryd.f5 := (Option.some.inj (Tryd.func5.symm.trans hfn)).symm
      exact ⟨by kernel_rfl, fun j t ht => by
        rw [Tryd.params5] at ht
        have hm : t ∈ [9, 9] := by simpa using Array.mem_of_getElem? ht
        have hall : ([9, 9].all fun u => !Tryd.prog.wantsStandIn u) = true := by kernel_rfl
        exact (show Tryd.prog.wantsStandIn t = false by simpa using List.all_eq_true.1 hall t hm)⟩)
    (by kernel_rfl)
end Go.Proofs.YtckimeikiakfcaaDoor
