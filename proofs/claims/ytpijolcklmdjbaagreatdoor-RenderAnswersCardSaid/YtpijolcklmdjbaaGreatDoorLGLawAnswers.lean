/- What a server answers has a report for each pair, what came of the statement, and the status: RenderAnswers answers true, whatever it is called with, and leaves what was there as it was. (Over the listed variables, tied to the program's text.) -/
import Derived.Test.YtpijolcklmdjbaaGreatDoorZ31
import Derived.Test.YtpijolcklmdjbaaGreatDoorZ40
import Derived.Test.YtpijolcklmdjbaaGreatDoorZ41
import Derived.Test.YtpijolcklmdjbaaGreatDoorZ49
import Derived.Test.YtpijolcklmdjbaaGreatDoorZ10
import Derived.BigQuiet
import Derived.Deep.QuietTactic
namespace Go.Proofs.YtpijolcklmdjbaaGreatDoor
open Go.RowKit Go.Lib Go.WideShapes Go.ChangeShapes Go.ChangeAt Go.Joins

/-- The kinds of messages, as bytes in memory. -/
def kcells (L : List Mg) : List Value := L.map fun x => .int .u8 (x.c.toNat : Nat)
/-- The cells at p tell the message x: its kind and its numbers. -/
def LastAt (w : World) (p : Nat) (x : Mg) : Prop := ∃ tv b n d, w.cell? ⟨p, 0, none⟩ = some (.int .u8 (x.c.toNat : Nat)) ∧ w.cell? ⟨p, 1, none⟩ = some tv ∧ w.cell? ⟨p, 2, none⟩ = some (.slice b n d) ∧ NumsIn w (.slice b n d) x.N ∧ (∀ g off, b = some ⟨g, off, none⟩ → g ≠ p) ∧ w.frozen? ⟨p, 0, none⟩ = false ∧ w.frozen? ⟨p, 1, none⟩ = false ∧ w.frozen? ⟨p, 2, none⟩ = false
theorem last_at {w : World} {p : Nat} {z0 z1 z2 tv : Value} {na : Option Addr} {n d : Nat} {x : Mg} (p0 : w.cell? ⟨p, 0, none⟩ = some z0) (p1 : w.cell? ⟨p, 1, none⟩ = some z1) (p2 : w.cell? ⟨p, 2, none⟩ = some z2) (f0 : w.frozen? ⟨p, 0, none⟩ = false) (f1 : w.frozen? ⟨p, 1, none⟩ = false) (f2 : w.frozen? ⟨p, 2, none⟩ = false) (hN : NumsIn w (.slice na n d) x.N) (hne : ∀ g off, na = some ⟨g, off, none⟩ → g ≠ p) : LastAt (((w.setCell ⟨p, 0, none⟩ (.int .u8 (x.c.toNat : Nat))).setCell ⟨p, 1, none⟩ tv).setCell ⟨p, 2, none⟩ (.slice na n d)) p x := by
  have n01 : (⟨p, 0, none⟩ : Addr) ≠ ⟨p, 1, none⟩ := by simp
  have n02 : (⟨p, 0, none⟩ : Addr) ≠ ⟨p, 2, none⟩ := by simp
  have n12 : (⟨p, 1, none⟩ : Addr) ≠ ⟨p, 2, none⟩ := by simp
  refine ⟨tv, na, n, d, ?_, ?_, ?_, nums_put (nums_put (nums_put hN hne) hne) hne, hne, ?_, ?_, ?_⟩
  · rw [World.cell?_setCell_other _ _ _ _ n02.symm, World.cell?_setCell_other _ _ _ _ n01.symm]
    exact World.cell?_setCell_same _ _ _ p0
  · rw [World.cell?_setCell_other _ _ _ _ n12.symm]
    exact World.cell?_setCell_same _ _ _ ((World.cell?_setCell_other _ _ _ _ n01).trans p1)
  · exact World.cell?_setCell_same _ _ _ (((World.cell?_setCell_other _ _ _ _ n12).trans ((World.cell?_setCell_other _ _ _ _ n02).trans p2)))
  · rw [World.frozen?_setCell, World.frozen?_setCell, World.frozen?_setCell]; exact f0
  · rw [World.frozen?_setCell, World.frozen?_setCell, World.frozen?_setCell]; exact f1
  · rw [World.frozen?_setCell, World.frozen?_setCell, World.frozen?_setCell]; exact f2
/-- The message before the place j. -/
def prevM (L : List Mg) (j : Nat) : Mg := if j = 0 then ⟨0, [], []⟩ else (L[j - 1]?).getD ⟨0, [], []⟩
theorem info_u8G : (Tryz.prog.info? 5).map (fun i => (i.zero, i.size, i.bytes)) = some (some (.int .u8 0), 1, 1) := by kernel_rfl
theorem rsum_one {T : List Bs} {t : Bs} (h : t ∈ T) : t.length + 1 ≤ rsum T := by
  induction T with
  | nil => cases h
  | cons q r ih =>
    have e : rsum (q :: r) = (q.length + 1) + rsum r := by unfold rsum; rw [List.map_cons, List.sum_cons]
    rcases List.mem_cons.1 h with rfl | h
    · omega
    · have := ih h; omega
theorem s_pos (x : Mg) : 0 < x.s.size := by
  unfold Mg.s packB packL
  show 0 < Array.size _
  simp [be4]
  omega
set_option maxRecDepth 100000 in
set_option maxHeartbeats 16000000 in
theorem answers_walk (G : Pairs) (lv : Value) (k1 : UInt8) (nm vl : ByteArray) (err : Int) (tag : ByteArray) (tv : Value) (Row : List Bs) (m : Int) (w : World) (hG : Holds w lv G) (hGz : ∀ p ∈ G, p.1.size ≤ 140737488351232 ∧ p.2.size ≤ 140737488351232) (zn : nm.size ≤ 140737488351232) (zv : vl.size ≤ 140737488351232) (hR : TextsIn w tv Row) (hRz : ∀ t ∈ Row, t.length ≤ 140737488351232) (zt : tag.size ≤ 140737488351232) (her : -9223372036854775808 ≤ err ∧ err ≤ 9223372036854775807) (hm : w.cell? ⟨2, 0, none⟩ = some (.int .i64 m)) (hT : TakenAt w) (hU : U10 w) :
    Calls Tryz.prog 4 #[lv, cmdV (k1.toNat : Nat) nm vl, .agg #[.int .i64 err, .string tag, tv]] w fun e w' => e = .returned (.bool true) ∧ Below w.heap.size w w' := by
  obtain ⟨la, lc, rfl⟩ := hG.form
  obtain ⟨iu, hiu, y0, y1, y2⟩ := info_parts info_u8G
  have hglen := hG.len
  have HR := Lib.hid hR
  obtain ⟨a, n, c, rfl, hRn, hnc, hcm, -⟩ := hR
  obtain ⟨i1, hi1⟩ : ∃ i : Int, i = (k1.toNat : Nat) := ⟨_, rfl⟩
  rw [← hi1]
  have HC1 := Lib.hid hi1.symm
  obtain ⟨W0, hW0⟩ : ∃ x, x = ((w.alloc (.cells #[.int .u8 i1, .string nm, .string vl] 23)).alloc (.cells #[.int .i64 err, .string tag, .slice a n c] 44)) := ⟨_, rfl⟩
  have hsz : W0.heap.size = w.heap.size + 1 + 1 := by rw [hW0]; simp
  have HB := Lib.hid (show Below w.heap.size w W0 by rw [hW0]; exact ((Below.refl _ _).alloc (Nat.le_refl _) _).alloc (by simp) _)
  have HK := Lib.hid (show ∀ W, Below W0.heap.size W0 W → W.cell? ⟨w.heap.size, 0, none⟩ = some (.int .u8 i1) ∧ W.cell? ⟨w.heap.size, 1, none⟩ = some (.string nm) ∧ W.cell? ⟨w.heap.size, 2, none⟩ = some (.string vl) ∧ W.cell? ⟨w.heap.size + 1, 0, none⟩ = some (.int .i64 err) ∧ W.cell? ⟨w.heap.size + 1, 1, none⟩ = some (.string tag) ∧ W.cell? ⟨w.heap.size + 1, 2, none⟩ = some (.slice a n c) from by
    intro W hW
    have k : ∀ q i, q < W0.heap.size → W.cell? ⟨q, i, none⟩ = W0.cell? ⟨q, i, none⟩ := fun q i h => hW.cell (p := ⟨q, i, none⟩) h
    refine ⟨(k _ _ (by omega)).trans ?_, (k _ _ (by omega)).trans ?_, (k _ _ (by omega)).trans ?_, (k _ _ (by omega)).trans ?_, (k _ _ (by omega)).trans ?_, (k _ _ (by omega)).trans ?_⟩ <;> (rw [hW0]; simp [go_sem]))
  have HE := Lib.hid hW0
  have HW0 := Lib.hid (World.block_lt_of_cell? w ⟨2, 0, none⟩ hm)
  have HM := Lib.hid hm
  have HMW := Lib.hid (fun W (h : Below w.heap.size w W) => (h.cell (p := ⟨2, 0, none⟩) HW0.out).trans HM.out)
  have HT := Lib.hid hT; have HU := Lib.hid hU; have HG := Lib.hid hG; have HGZ := Lib.hid hGz; have HRZ := Lib.hid hRz; have HRN := Lib.hid hRn
  clear hW0 hsz hi1 hm hT hU hG hGz hRz hRn
  go_enter Tryz.func4, Tryz.ntmps4
  go_wp2_with fail
  rw [← HE.out]
  refine (shown13 m W0 (HMW.out _ HB.out) (HT.out.step HB.out)).mono ?_; rintro e w1 ⟨rfl, hb⟩
  have B1 := Lib.hid hb
  have P1 := Lib.hid (HB.out.step hb HB.out.size)
  clear hb
  obtain ⟨k0, k1, k2, l0, l1, l2⟩ := HK.out _ B1.out
  go_wp2_with fail
  refine (few13_any _ _ G Row w1 (HG.out.grown P1.out (Nat.le_refl _)) (HR.out.mono P1.out) HGZ.out HRZ.out).mono ?_; rintro e w2 ⟨rfl, hb⟩
  have B2 := Lib.hid (B1.out.step hb B1.out.size)
  have P2 := Lib.hid (P1.out.step hb P1.out.size)
  clear hb k0 k1 k2 l0 l1 l2
  obtain ⟨k0, k1, k2, l0, l1, l2⟩ := HK.out _ B2.out
  by_cases hf : ¬ (weight G + rsum Row < 3000)
  · rw [decide_eq_false hf]
    go_wp2_with fail
    go_ret
    exact ⟨rfl, P2.out⟩
  have hf := Decidable.not_not.1 hf
  rw [decide_eq_true hf]
  go_wp2_with fail
  refine (g_short_any _ nm vl w2 zn zv).mono ?_; rintro e w3 ⟨rfl, hb⟩
  have B3 := Lib.hid (B2.out.step hb B2.out.size)
  have P3 := Lib.hid (P2.out.step hb P2.out.size)
  clear hb k0 k1 k2 l0 l1 l2
  obtain ⟨k0, k1, k2, l0, l1, l2⟩ := HK.out _ B3.out
  by_cases hs1 : ¬ ((nm.size : Int) + vl.size < 2000)
  · rw [decide_eq_false hs1]
    go_wp2_with fail
    go_ret
    exact ⟨rfl, P3.out⟩
  have hs1 := Decidable.not_not.1 hs1
  rw [decide_eq_true hs1]
  by_cases ht1 : 1000 < tag.size
  · have ht2 : (1000 : Int) < tag.size := by omega
    go_wp2_with fail
    go_ret
    exact ⟨rfl, P3.out⟩
  have ht2 : ¬ (1000 : Int) < tag.size := by omega
  by_cases hn1 : 1 < n
  · have hn2 : (1 : Int) < n := by omega
    go_wp2_with fail
    go_ret
    exact ⟨rfl, P3.out⟩
  have hn2 : ¬ (1 : Int) < n := by omega
  by_cases he1 : err < 0
  · go_wp2_with fail
    go_ret
    exact ⟨rfl, P3.out⟩
  have HA := Lib.hid (answer_any outcome_ok w3 (.slice la G.length lc) G i1 nm vl err tag a n c Row 84 (HG.out.grown P3.out (Nat.le_refl _)) HRN.out (by omega) (HR.out.mono P3.out) (by omega) her.2 (fun t h => by have := rsum_one h; omega) (u10_step HU.out P3.out) (fun _ _ h b => u10_step h b) ⟨by have := weight_len G; omega, fun p h => by have := weight_one h; omega⟩ (by omega) (by omega))
  rw [show (((84 : UInt8).toNat : Nat) : Int) = 84 from rfl] at HA
  have HLN := Lib.hid ((ans_length G (bytes nm) err (bytes tag) Row 84).trans (by rw [out_length _ _ _ _ (by rw [HRN.out]; omega), HRN.out]))
  have HLP := Lib.hid (fun j (h : j < G.length) => ans_pair (nm := bytes nm) (tag := bytes tag) (err := err) (st := 84) (Row := Row) h)
  have HLK := Lib.hid (fun j x (h : G.length ≤ j) => ans_kind (nm := bytes nm) (tag := bytes tag) (err := err) (st := 84) (Row := Row) (x := x) h)
  have HLL := Lib.hid (ans_last G (bytes nm) err (bytes tag) Row 84)
  have HLW := Lib.hid (ans_want G (bytes nm) err (bytes tag) Row 84)
  generalize ansM G (bytes nm) err (bytes tag) Row 84 = L at HA HLN HLP HLK HLL HLW
  have hglt : G.length < 3000 := by have := weight_len G; omega
  have hllt : L.length < 3005 := by have := HLN.out; split at this <;> omega
  clear hf hs1
  go_wp2_with fail
  refine HA.out.mono ?_; rintro e w4 ⟨rfl, hb⟩
  have B4 := Lib.hid (B3.out.step hb B3.out.size)
  have P4 := Lib.hid (P3.out.step hb P3.out.size)
  clear hb k0 k1 k2 l0 l1 l2
  by_cases hE : togE L = 0
  · have HTA := Lib.hid (togE_all hE)
    rw [show togS L = ⟨(togB L).toArray⟩ from if_pos hE, hE]
    clear hE
    have HS0 := Lib.hid (show ((⟨(togB L).toArray⟩ : ByteArray)) = ⟨(togB (L.drop 0)).toArray⟩ from rfl)
    go_wp2_with fail
    go_loopw [9, 11, 13] (fun s kv i wr => ∃ j : Nat, j ≤ L.length ∧ i = .int .i64 j ∧ s = .string ⟨(togB (L.drop j)).toArray⟩ ∧ wr.ownsRow (w4.heap.size + 1) 5 1 kv j (kcells (L.take j)) ∧ LastAt wr w4.heap.size (prevM L j) ∧ Below w4.heap.size w4 wr) (fun _ _ i _ => L.length - (RowKit.intOf i).toNat)
    case atStart => exact ⟨0, Nat.zero_le _, rfl, rfl, ⟨rfl, .inl ⟨rfl, rfl⟩⟩, ⟨.slice none 0 0, none, 0, 0, by simp [go_sem, prevM], by simp [go_sem], by simp [go_sem], by unfold prevM; rw [if_pos rfl]; exact numsG_nil _, fun _ _ h => (by cases h), by simp [go_sem], by simp [go_sem], by simp [go_sem]⟩, (Below.refl _ _).alloc (Nat.le_refl _) _⟩
    case round =>
      obtain ⟨j, hj, rfl, rfl, hkv, hLA, hb⟩ := hrel
      have HKV := Lib.hid hkv; have HLA := Lib.hid hLA; have HBB := Lib.hid hb
      have B5 := Lib.hid (B4.out.step hb B4.out.size)
      have P5 := Lib.hid (P4.out.step hb P4.out.size)
      obtain ⟨ka, kc, rfl⟩ := ownsRow_form hkv
      have hkl := hkv.lt
      have HKL := Lib.hid hkl
      clear hkv hLA hb hkl
      obtain ⟨sb, hsb⟩ : ∃ sb : ByteArray, sb = ⟨(togB (L.drop j)).toArray⟩ := ⟨_, rfl⟩
      rw [← hsb]
      by_cases hlt : j < L.length
      · obtain ⟨x, hx⟩ : ∃ x, L[j]? = some x := ⟨_, List.getElem?_eq_getElem hlt⟩
        have hxe := HTA.out x (List.mem_of_getElem? hx)
        have hdr : L.drop j = x :: L.drop (j + 1) := by
          rw [List.drop_eq_getElem_cons hlt]
          have := List.getElem?_eq_getElem hlt
          rw [hx] at this
          injection this with this
          rw [this]
        obtain ⟨tb, htb⟩ : ∃ tb : ByteArray, tb = ⟨(togB (L.drop (j + 1))).toArray⟩ := ⟨_, rfl⟩
        have hsb2 : sb = x.s ++ tb := by rw [hsb, hdr, togB_cons, htb]
        have hse : sb.toList.isEmpty = false := by
          rw [Lib.toList_data]
          have h1 : 0 < sb.size := by rw [hsb2, ByteArray.size_append]; have := s_pos x; omega
          cases h : sb.data.toList with
          | nil => have h2 : sb.size = 0 := by (show sb.data.size = 0; rw [← Array.length_toList, h]; rfl)
                   omega
          | cons _ _ => rfl
        obtain ⟨B, hB⟩ : ∃ B, B = (x.w).getD [] := ⟨_, rfl⟩
        have hBl : B.length ≤ 800000 := by
          obtain ⟨B', h1, h2⟩ := w_some hxe
          rw [hB, h1]; show B'.length ≤ _; omega
        have HTK := Lib.hid (fun W => take_msg hxe tb W)
        have HRD := w_read hxe
        rw [← hB] at HTK HRD
        rw [← hsb2] at HTK
        have HDE := Lib.hid (fun W => (show Calls Tryz.prog 12 #[.bool true, .agg #[.int .u8 (x.c.toNat : Nat), .string ⟨B.toArray⟩]] W (fun e w' => ∃ tv nv, e = .returned (.tuple #[.agg #[.int .u8 (x.c.toNat : Nat), tv, nv], .int .i64 0]) ∧ w'.ownsRow W.heap.size 9 1 tv x.T.length (tcells x.T) ∧ w'.ownsRow W.heap.size 3 1 nv x.N.length (ncells x.N) ∧ Below W.heap.size W w') from by have := decode_any W true x.c B hBl; rw [HRD] at this; exact this))
        have HX := Lib.hid hx; have HTB := Lib.hid htb
        have hkn : kcells (L.take (j + 1)) = kcells (L.take j) ++ [.int .u8 (x.c.toNat : Nat)] := by
          unfold kcells
          rw [List.take_add_one, List.map_append, hx]; rfl
        obtain ⟨ci, hci⟩ : ∃ ci : Int, ci = (x.c.toNat : Nat) := ⟨_, rfl⟩
        have hcr : 0 ≤ ci ∧ ci < 256 := by have := UInt8.toNat_lt x.c; omega
        rw [← hci] at HTK HDE hkn
        have HCI := Lib.hid hci; have HKN := Lib.hid hkn
        have hj4 : (j : Int) < 4000 := by omega
        clear hsb hsb2 hdr hB hBl HRD hxe htb hx hkn hci
        go_wp2_with fail
        refine (HTK.out _).mono ?_; rintro e w5 ⟨rfl, hb⟩
        have B6 := Lib.hid hb
        clear hb
        go_wp2_with fail
        refine (HDE.out _).mono ?_; rintro e w6 ⟨tv, nv, rfl, hT6, hN6, hb⟩
        have B7 := Lib.hid (show Below wr.heap.size wr w6 from (B6.out.alloc B6.out.size _).step hb (by rw [World.size_alloc]; exact Nat.le_succ_of_le B6.out.size))
        have HT6 := Lib.hid hT6; have HN6 := Lib.hid hN6
        obtain ⟨ta, tc, rfl⟩ := ownsRow_form hT6
        obtain ⟨na, nc, rfl⟩ := ownsRow_form hN6
        clear hT6 hN6 hb
        have hjg0 : (j : Int) ≤ 3005 := by omega
        by_cases hjg : j < G.length
        · have hjd : decide (G.length ≤ j) = false := by simp; omega
          obtain rfl : x = ⟨83, [bytes G[j].1, bytes G[j].2], []⟩ := by have := HLP.out j hjg; rw [HX.out] at this; exact Option.some.inj this
          obtain rfl : ci = 83 := HCI.out
          obtain ⟨b, off, rfl, hbl, hc⟩ := HG.out.open (by omega)
          have hP7 : Below w.heap.size w (w6.alloc (.cells #[.int .u8 83, .slice ta 2 tc, .slice na 0 nc] 39)) := (P5.out.step B7.out P5.out.size).alloc (Nat.le_trans P5.out.size B7.out.size) _
          have g0 := (hP7.cell (p := ⟨b, off + j * 2, none⟩) hbl).trans (hc j hjg).1
          have g1 := (hP7.cell (p := ⟨b, off + j * 2 + 1, none⟩) hbl).trans (hc j hjg).2
          have hT9 := own_textsIn HT6.out
          obtain ⟨_, _, _, htv, htl, htc, htc2, hTc⟩ := hT9
          injection htv with e1 e2 e3
          subst e1 e2 e3
          rcases hTc with hTc | ⟨gt, ot, rfl, hgt, hTc⟩
          · cases hTc
          have u0 := (World.cell?_alloc_lt w6 (.cells #[.int .u8 83, .slice (some ⟨gt, ot, none⟩) 2 tc, .slice na 0 nc] 39) ⟨gt, ot + 0, none⟩ hgt).trans (hTc 0 _ rfl)
          have u1 := (World.cell?_alloc_lt w6 (.cells #[.int .u8 83, .slice (some ⟨gt, ot, none⟩) 2 tc, .slice na 0 nc] 39) ⟨gt, ot + 1, none⟩ hgt).trans (hTc 1 _ rfl)
          rw [show (⟨(bytes G[j].1).toArray⟩ : ByteArray) = G[j].1 from by simp [bytes], Nat.add_zero] at u0
          rw [show (⟨(bytes G[j].2).toArray⟩ : ByteArray) = G[j].2 from by simp [bytes]] at u1
          obtain ⟨xa, hx1⟩ : ∃ z, z = G[j].1 := ⟨_, rfl⟩
          obtain ⟨ya, hy1⟩ : ∃ z, z = G[j].2 := ⟨_, rfl⟩
          rw [← hx1] at u0 g0
          rw [← hy1] at u1 g1
          have htc1 : (2 : Int) ≤ tc := by simp at htc; omega
          have hjg1 : (j : Int) < G.length := by omega
          clear hP7 hc hx1 hy1 hTc htl htc
          go_wp2_with fail
          go_big_quiet (fail)
          obtain ⟨w7, hw7⟩ : ∃ y, y = (w6.alloc (.cells #[.int .u8 83, .slice (some ⟨gt, ot, none⟩) 2 tc, .slice na 0 nc] 39)).drewN nq := ⟨_, rfl⟩
          rw [← hw7]
          have hb67 : Below w6.heap.size w6 w7 := by rw [hw7]; exact below_drewN ((Below.refl _ _).alloc (Nat.le_refl _) _) nq
          have hz7 : w7.heap.size = w6.heap.size + 1 := by rw [hw7]; simp [go_sem]
          have hm7 : w7.cell? ⟨w6.heap.size, 0, none⟩ = some (.int .u8 83) ∧ w7.cell? ⟨w6.heap.size, 1, none⟩ = some (.slice (some ⟨gt, ot, none⟩) 2 tc) ∧ w7.cell? ⟨w6.heap.size, 2, none⟩ = some (.slice na 0 nc) := by rw [hw7]; simp [go_sem]
          clear hw7
          have HB67 := Lib.hid hb67
          have B8 := Lib.hid (B7.out.step hb67 B7.out.size)
          have HO7 := Lib.hid (HKV.out.kept (grow_below B8.out none) (by cases (Value.slice ka j kc).ownBlock <;> simp))
          have HZ7 := Lib.hid hz7; have HM7 := Lib.hid hm7
          obtain ⟨m0, m1, m2⟩ := hm7
          clear hb67 hz7
          go_wp2_with (at_builtin; refine wpList_append_at _ rfl (.tmp 127) (.tmp 130) 47 rfl (w4.heap.size + 1) 5 iu (.int .u8 0) 1 1 Tryz.underlying47 hiu y0 y1 y2 rfl (by decide) (.slice ka j kc) j (kcells (L.take j)) rfl (HO7.out.alloc _) ⟨w7.heap.size, 0, none⟩ 1 1 [.int .u8 83] rfl rfl (fun j u hj => by
            match j, hj with
            | 0, hj => simp at hj; subst hj; simp [Addr.add, go_sem]
            | n + 1, hj => simp at hj) (by simp [Value.oneCell']) (by unfold maxLen; omega) (by omega) (by rw [World.size_alloc]; have := HBB.out.size; have := B8.out.size; omega) ?_)
          intro v8 w8 hO8 hg8 hf8
          clear m0 m1 m2 u0 u1 g0 g1
          have hsz := HBB.out.size
          have hs7 := B7.out.size
          have hz7 := HZ7.out
          obtain ⟨lt, lb, ln, ld, l0, l1, l2, lN, lne, f0, f1, f2⟩ := HLA.out
          have hw4 := World.block_lt_of_cell? wr ⟨w4.heap.size, 0, none⟩ l0
          have hq4 : some w4.heap.size ≠ (Value.slice ka j kc).ownBlock := fun e => by have := (HKL.out _ e.symm).1; omega
          have hq6 : some w6.heap.size ≠ (Value.slice ka j kc).ownBlock := fun e => by have := (HKL.out _ e.symm).2; omega
          have k12 : ∀ i z, wr.cell? ⟨w4.heap.size, i, none⟩ = some z → w8.cell? ⟨w4.heap.size, i, none⟩ = some z := fun i z hz => hg8.cell ((World.cell?_alloc_lt _ _ _ (show w4.heap.size < w7.heap.size by have := B8.out.size; omega)).trans ((B8.out.cell (p := ⟨w4.heap.size, i, none⟩) hw4).trans hz)) hq4
          have r12 : ∀ i, wr.frozen? ⟨w4.heap.size, i, none⟩ = false → w8.frozen? ⟨w4.heap.size, i, none⟩ = false := fun i hz => (World.frozen?_of_block (a := ⟨w4.heap.size, i, none⟩) (hg8.block _ (by rw [World.size_alloc]; show w4.heap.size < _; have := B8.out.size; omega) hq4)).trans ((World.frozen?_of_block (a := ⟨w4.heap.size, i, none⟩) (heap_alloc_old _ _ (show w4.heap.size < w7.heap.size by have := B8.out.size; omega))).trans ((B8.out.frozen (p := ⟨w4.heap.size, i, none⟩) hw4).trans hz))
          have k17 : ∀ i z, w7.cell? ⟨w6.heap.size, i, none⟩ = some z → w8.cell? ⟨w6.heap.size, i, none⟩ = some z := fun i z hz => hg8.cell ((World.cell?_alloc_lt _ _ _ (show w6.heap.size < w7.heap.size by omega)).trans hz) hq6
          have n0 := k17 _ _ HM7.out.1
          have n1 := k17 _ _ HM7.out.2.1
          have n2 := k17 _ _ HM7.out.2.2
          have p0 := k12 _ _ l0
          have p1 := k12 _ _ l1
          have p2 := k12 _ _ l2
          have s0 := r12 _ f0
          have s1 := r12 _ f1
          have s2 := r12 _ f2
          obtain ⟨na', nc', e8, hnc8, hN8, hna8⟩ := own_numsG (N := []) HN6.out rfl
          injection e8 with e1 e2 e3
          subst e1 e3
          have hw5 : wr.heap.size ≤ w5.heap.size := B6.out.size
          have hN9 := nums_grown (hN8.mono (HB67.out.alloc HB67.out.size (.cells #[.int .u8 83] 5))) hg8 (fun _ g off e => by
            have := (hna8 g off e).1
            intro e9
            have := (HKL.out _ e9.symm).2
            rw [World.size_alloc] at *
            omega)
          have hne9 : ∀ g off, na = some ⟨g, off, none⟩ → g ≠ w4.heap.size := fun g off e => by have := (hna8 g off e).1; rw [World.size_alloc] at this; omega
          have HLX := Lib.hid (show LastAt (((w8.setCell ⟨w4.heap.size, 0, none⟩ (.int .u8 83)).setCell ⟨w4.heap.size, 1, none⟩ (.slice (some ⟨gt, ot, none⟩) 2 tc)).setCell ⟨w4.heap.size, 2, none⟩ (.slice na 0 nc)) w4.heap.size (prevM L (j + 1)) from by
            rw [show prevM L (j + 1) = (⟨83, [bytes G[j].1, bytes G[j].2], []⟩ : Mg) from by unfold prevM; rw [if_neg (Nat.succ_ne_zero j), Nat.add_sub_cancel, HX.out]; rfl]
            have h := last_at (x := (⟨83, [bytes G[j].1, bytes G[j].2], []⟩ : Mg)) (tv := .slice (some ⟨gt, ot, none⟩) 2 tc) p0 p1 p2 s0 s1 s2 hN9 hne9
            skip
            exact h)
          have HO8 := Lib.hid hO8
          have HB8 := Lib.hid (show Below w4.heap.size w4 w8 from ((HBB.out.step B8.out HBB.out.size).alloc (Nat.le_trans HBB.out.size B8.out.size) _).grown hg8 (by rw [World.size_alloc]; have := B8.out.size; omega) (fun k hk => by have := (HKL.out k hk).1; omega))
          have HS8 := Lib.hid (show w4.heap.size < w8.heap.size from World.block_lt_of_cell? w8 ⟨w4.heap.size, 0, none⟩ p0)
          obtain ⟨va, vc, rfl⟩ := ownsRow_form hO8
          clear hO8 hg8 hf8 hsz hs7 hz7 l0 l1 l2 lN lne f0 f1 f2 hw4 hq4 hq6 k12 r12 k17 hnc8 hN8 hna8 hw5 hN9 hne9 HLA HM7 HO7 HKV
          go_wp2_with fail
          go_roundw
          case measure => first | omega | (simp [RowKit.intOf]; omega)
          case rel =>
            refine ⟨j + 1, by omega, by go_num, by rw [HTB.out], ?_, ?_, ?_⟩
            · rw [HKN.out]
              exact ownsRow_setCell_below (ownsRow_setCell_below (ownsRow_setCell_below HO8.out (a := ⟨w4.heap.size, 0, none⟩) (Nat.lt_succ_self _) _) (a := ⟨w4.heap.size, 1, none⟩) (Nat.lt_succ_self _) _) (a := ⟨w4.heap.size, 2, none⟩) (Nat.lt_succ_self _) _
            · exact HLX.out
            · exact ((HB8.out.setCell (Nat.le_refl _) _).setCell (Nat.le_refl _) _).setCell (Nat.le_refl _) _
        · have hci : ci ≠ 83 := by
            have h1 := HLK.out j x (by omega) HX.out
            intro h2
            apply h1
            apply UInt8.toNat_inj.1
            have h3 := HCI.out
            rw [h2] at h3
            show x.c.toNat = 83
            omega
          have hcb : (ci == 83) = false := by simpa using hci
          go_wp2_with fail
          go_big_quiet (fail)
          obtain ⟨w7, hw7⟩ : ∃ y, y = (w6.alloc (.cells #[.int .u8 ci, .slice ta x.T.length tc, .slice na x.N.length nc] 39)).drewN nq := ⟨_, rfl⟩
          rw [← hw7]
          have hb67 : Below w6.heap.size w6 w7 := by rw [hw7]; exact below_drewN ((Below.refl _ _).alloc (Nat.le_refl _) _) nq
          have hz7 : w7.heap.size = w6.heap.size + 1 := by rw [hw7]; simp [go_sem]
          have hm7 : w7.cell? ⟨w6.heap.size, 0, none⟩ = some (.int .u8 ci) ∧ w7.cell? ⟨w6.heap.size, 1, none⟩ = some (.slice ta x.T.length tc) ∧ w7.cell? ⟨w6.heap.size, 2, none⟩ = some (.slice na x.N.length nc) := by rw [hw7]; simp [go_sem]
          clear hw7
          have HB67 := Lib.hid hb67
          have B8 := Lib.hid (B7.out.step hb67 B7.out.size)
          have HO7 := Lib.hid (HKV.out.kept (grow_below B8.out none) (by cases (Value.slice ka j kc).ownBlock <;> simp))
          have HZ7 := Lib.hid hz7; have HM7 := Lib.hid hm7
          obtain ⟨m0, m1, m2⟩ := hm7
          clear hb67 hz7
          go_wp2_with (at_builtin; refine wpList_append_at _ rfl (.tmp 127) (.tmp 130) 47 rfl (w4.heap.size + 1) 5 iu (.int .u8 0) 1 1 Tryz.underlying47 hiu y0 y1 y2 rfl (by decide) (.slice ka j kc) j (kcells (L.take j)) rfl (HO7.out.alloc _) ⟨w7.heap.size, 0, none⟩ 1 1 [.int .u8 ci] rfl rfl (fun j u hj => by
            match j, hj with
            | 0, hj => simp at hj; subst hj; simp [Addr.add, go_sem]
            | n + 1, hj => simp at hj) (by simp [Value.oneCell']) (by unfold maxLen; omega) (by omega) (by rw [World.size_alloc]; have := HBB.out.size; have := B8.out.size; omega) ?_)
          intro v8 w8 hO8 hg8 hf8
          clear m0 m1 m2
          have hsz := HBB.out.size
          have hs7 := B7.out.size
          have hz7 := HZ7.out
          obtain ⟨lt, lb, ln, ld, l0, l1, l2, lN, lne, f0, f1, f2⟩ := HLA.out
          have hw4 := World.block_lt_of_cell? wr ⟨w4.heap.size, 0, none⟩ l0
          have hq4 : some w4.heap.size ≠ (Value.slice ka j kc).ownBlock := fun e => by have := (HKL.out _ e.symm).1; omega
          have hq6 : some w6.heap.size ≠ (Value.slice ka j kc).ownBlock := fun e => by have := (HKL.out _ e.symm).2; omega
          have k12 : ∀ i z, wr.cell? ⟨w4.heap.size, i, none⟩ = some z → w8.cell? ⟨w4.heap.size, i, none⟩ = some z := fun i z hz => hg8.cell ((World.cell?_alloc_lt _ _ _ (show w4.heap.size < w7.heap.size by have := B8.out.size; omega)).trans ((B8.out.cell (p := ⟨w4.heap.size, i, none⟩) hw4).trans hz)) hq4
          have r12 : ∀ i, wr.frozen? ⟨w4.heap.size, i, none⟩ = false → w8.frozen? ⟨w4.heap.size, i, none⟩ = false := fun i hz => (World.frozen?_of_block (a := ⟨w4.heap.size, i, none⟩) (hg8.block _ (by rw [World.size_alloc]; show w4.heap.size < _; have := B8.out.size; omega) hq4)).trans ((World.frozen?_of_block (a := ⟨w4.heap.size, i, none⟩) (heap_alloc_old _ _ (show w4.heap.size < w7.heap.size by have := B8.out.size; omega))).trans ((B8.out.frozen (p := ⟨w4.heap.size, i, none⟩) hw4).trans hz))
          have k17 : ∀ i z, w7.cell? ⟨w6.heap.size, i, none⟩ = some z → w8.cell? ⟨w6.heap.size, i, none⟩ = some z := fun i z hz => hg8.cell ((World.cell?_alloc_lt _ _ _ (show w6.heap.size < w7.heap.size by omega)).trans hz) hq6
          have n0 := k17 _ _ HM7.out.1
          have n1 := k17 _ _ HM7.out.2.1
          have n2 := k17 _ _ HM7.out.2.2
          have p0 := k12 _ _ l0
          have p1 := k12 _ _ l1
          have p2 := k12 _ _ l2
          have s0 := r12 _ f0
          have s1 := r12 _ f1
          have s2 := r12 _ f2
          obtain ⟨na', nc', e8, hnc8, hN8, hna8⟩ := own_numsG (N := x.N) HN6.out rfl
          injection e8 with e1 e2 e3
          subst e1 e3
          have hw5 : wr.heap.size ≤ w5.heap.size := B6.out.size
          have hN9 := nums_grown (hN8.mono (HB67.out.alloc HB67.out.size (.cells #[.int .u8 ci] 5))) hg8 (fun _ g off e => by
            have := (hna8 g off e).1
            intro e9
            have := (HKL.out _ e9.symm).2
            rw [World.size_alloc] at *
            omega)
          have hne9 : ∀ g off, na = some ⟨g, off, none⟩ → g ≠ w4.heap.size := fun g off e => by have := (hna8 g off e).1; rw [World.size_alloc] at this; omega
          have HLX := Lib.hid (show LastAt (((w8.setCell ⟨w4.heap.size, 0, none⟩ (.int .u8 ci)).setCell ⟨w4.heap.size, 1, none⟩ (.slice ta x.T.length tc)).setCell ⟨w4.heap.size, 2, none⟩ (.slice na x.N.length nc)) w4.heap.size (prevM L (j + 1)) from by
            rw [show prevM L (j + 1) = x from by unfold prevM; rw [if_neg (Nat.succ_ne_zero j), Nat.add_sub_cancel, HX.out]; rfl]
            have h := last_at (x := x) (tv := .slice ta x.T.length tc) p0 p1 p2 s0 s1 s2 hN9 hne9
            rw [← HCI.out] at h
            exact h)
          have HO8 := Lib.hid hO8
          have HB8 := Lib.hid (show Below w4.heap.size w4 w8 from ((HBB.out.step B8.out HBB.out.size).alloc (Nat.le_trans HBB.out.size B8.out.size) _).grown hg8 (by rw [World.size_alloc]; have := B8.out.size; omega) (fun k hk => by have := (HKL.out k hk).1; omega))
          have HS8 := Lib.hid (show w4.heap.size < w8.heap.size from World.block_lt_of_cell? w8 ⟨w4.heap.size, 0, none⟩ p0)
          obtain ⟨va, vc, rfl⟩ := ownsRow_form hO8
          clear hO8 hg8 hf8 hsz hs7 hz7 l0 l1 l2 lN lne f0 f1 f2 hw4 hq4 hq6 k12 r12 k17 hnc8 hN8 hna8 hw5 hN9 hne9 HLA HM7 HO7 HKV
          go_wp2_with fail
          go_roundw
          case measure => first | omega | (simp [RowKit.intOf]; omega)
          case rel =>
            refine ⟨j + 1, by omega, by go_num, by rw [HTB.out], ?_, ?_, ?_⟩
            · rw [HKN.out]
              exact ownsRow_setCell_below (ownsRow_setCell_below (ownsRow_setCell_below HO8.out (a := ⟨w4.heap.size, 0, none⟩) (Nat.lt_succ_self _) _) (a := ⟨w4.heap.size, 1, none⟩) (Nat.lt_succ_self _) _) (a := ⟨w4.heap.size, 2, none⟩) (Nat.lt_succ_self _) _
            · exact HLX.out
            · exact ((HB8.out.setCell (Nat.le_refl _) _).setCell (Nat.le_refl _) _).setCell (Nat.le_refl _) _
      · obtain rfl : j = L.length := by omega
        have hse : sb = { data := #[] } := by rw [hsb, List.drop_length]; rfl
        clear hsb
        subst hse
        have hkv := HKV.out
        rw [List.take_length] at hkv
        have hl2 : 2 ≤ L.length := by have := HLN.out; split at this <;> omega
        have hla := HLA.out
        rw [show prevM L L.length = ⟨90, [], [84]⟩ from by unfold prevM; rw [if_neg (by omega), HLL.out]; rfl] at hla
        obtain ⟨lt, lb, ln, ld, l0, l1, l2, lN, lne, f0, f1, f2⟩ := hla
        obtain ⟨_, _, _, hnv, hnl, hnc9, hnc8, hNc⟩ := lN
        injection hnv with e1 e2 e3
        subst e1 e2 e3
        rcases hNc with hNc | ⟨gn, on, rfl, hgn, hNc⟩
        · cases hNc
        have hc84 := hNc 0 _ rfl
        rw [Nat.add_zero] at hc84
        obtain rfl : ln = 1 := hnl.symm
        have hld : (1 : Int) ≤ ld := by omega
        obtain ⟨gk, kcap, rfl, hkc⟩ : ∃ gk cap, ka = some ⟨gk, 0, none⟩ ∧ L.length ≤ kc := by
          rcases hkv.2 with ⟨h0, _⟩ | ⟨g2, cap2, cur2, e1, _, _, e3, _⟩
          · injection h0 with _ h0 _; omega
          · injection e1 with e1 e2 e4; subst e4; exact ⟨g2, 0, e1, e3⟩
        have hkcell := hkv.cells (g := gk) rfl
        obtain ⟨xw, hxw, hxc⟩ := HLW.out
        have hk9 : wr.cell? ⟨gk, L.length - 2, none⟩ = some (.int .u8 ((wantC err (bytes tag)).toNat : Nat)) := by
          have := hkcell (L.length - 2) (.int .u8 (xw.c.toNat : Nat)) (by unfold kcells; rw [List.getElem?_map, hxw]; rfl)
          rw [Go.WideShapes.add_plain, hxc, Nat.zero_add] at this
          exact this
        obtain ⟨q0, q1, q2, t0, t1, t2⟩ := HK.out wr B5.out
        clear hkcell hxw hxc hkv hNc hnl HKV HLA
        have hln := HLN.out
        by_cases he0 : err = 0
        · subst he0
          rw [if_pos rfl] at hln
          rcases (show n = 0 ∨ n = 1 by omega) with rfl | rfl
          · have hl3 : L.length = G.length + 2 := by omega
            clear hln
            by_cases ht : tag = { data := #[] }
            · subst ht
              have hw : ((wantC 0 (bytes { data := #[] })).toNat : Int) = 73 := rfl
              rw [hw, hl3, show G.length + 2 - 2 = G.length by omega] at hk9
              rw [hl3]
              clear hl3 hw
              go_wp2_with fail
              go_ret
              exact ⟨rfl, P5.out⟩
            · have htb : bytes tag ≠ [] := fun h => ht (by apply ByteArray.ext; apply Array.toList_inj.1; exact h)
              have hte : tag.toList.isEmpty = false := by rw [Lib.toList_data]; show (bytes tag).isEmpty = false; cases h : bytes tag with | nil => exact absurd h htb | cons _ _ => rfl
              have hw : ((wantC 0 (bytes tag)).toNat : Int) = 67 := by unfold wantC; rw [if_pos rfl, if_neg htb]; rfl
              rw [hw, hl3, show G.length + 2 - 2 = G.length by omega] at hk9
              rw [hl3]
              clear hl3 hw htb ht
              go_wp2_with fail
              go_ret
              exact ⟨rfl, P5.out⟩
          · have hl3 : L.length = G.length + 2 + 2 := by omega
            clear hln
            by_cases ht : tag = { data := #[] }
            · subst ht
              have hw : ((wantC 0 (bytes { data := #[] })).toNat : Int) = 73 := rfl
              rw [hw, hl3, show G.length + 2 + 2 - 2 = G.length + 2 by omega] at hk9
              rw [hl3]
              clear hl3 hw
              go_wp2_with fail
              go_ret
              exact ⟨rfl, P5.out⟩
            · have htb : bytes tag ≠ [] := fun h => ht (by apply ByteArray.ext; apply Array.toList_inj.1; exact h)
              have hte : tag.toList.isEmpty = false := by rw [Lib.toList_data]; show (bytes tag).isEmpty = false; cases h : bytes tag with | nil => exact absurd h htb | cons _ _ => rfl
              have hw : ((wantC 0 (bytes tag)).toNat : Int) = 67 := by unfold wantC; rw [if_pos rfl, if_neg htb]; rfl
              rw [hw, hl3, show G.length + 2 + 2 - 2 = G.length + 2 by omega] at hk9
              rw [hl3]
              clear hl3 hw htb ht
              go_wp2_with fail
              go_ret
              exact ⟨rfl, P5.out⟩
        · have hl3 : L.length = G.length + 2 := by rw [if_neg he0] at hln; omega
          have hne : (err != 0) = true := by simpa using he0
          have hw : ((wantC err (bytes tag)).toNat : Int) = 69 := by unfold wantC; rw [if_neg he0]; rfl
          rw [hw, hl3, show G.length + 2 - 2 = G.length by omega] at hk9
          rw [hl3]
          clear hln hl3 he0 hw
          go_wp2_with fail
          go_ret
          exact ⟨rfl, P5.out⟩
  · rw [show togS L = { data := #[] } from if_neg hE]
    have hne : (togE L != 0) = true := by simpa using hE
    generalize togE L = E at hne ⊢
    clear hE
    go_wp2_with fail
    go_ret
    exact ⟨rfl, P4.out⟩
set_option maxRecDepth 100000 in
theorem answers_lifted (os : Os) (started : os.Started) (H : Type) (enc : TypeId × Value → H) :
    ReturnsInHanded {} Tryz.checked os 4 .any (fun w args => (Rows.renderAnswersSpec.pre enc Tryz.prog Tryz.f4 Rows.renderAnswersRow.domain false w args ∧ laidMetH Tryz.prog laidA w) ∧ sizedMet enc Tryz.prog Tryz.f4 (OpenSpec.ofChange Rows.renderAnswersSpec) false w args) (Rows.renderAnswersSpec.post enc Tryz.prog Tryz.f4 false true false false) := by
  refine handed_laid (C := Tryz.checked) (X := fun w _ => laidMetH Tryz.prog laidA w) (fun _ _ _ hh h => h.of_heap hh) own started (by kernel_rfl) Tryz.func4
    (ChangeSpec.witness_shaped (enc := enc) (C := Tryz.checked) (os := os) (X := fun w _ => laidMetH Tryz.prog laidA w) false (World.laidAll Tryz.prog os laidA) #[.slice none 0 0, .agg #[.int .u8 0, .string { data := #[] }, .string { data := #[] }], .agg #[.int .i64 0, .string { data := #[] }, .slice none 0 0]] 8 (World.laidAll_os _ _ _) (World.shaped_of_ZipB (by kernel_rfl) (by kernel_rfl)) (by kernel_rfl) (by kernel_rfl) (by kernel_rfl)
      (by rw [MakeChecks.laidMetH_plain _ _ _ (by kernel_rfl)]; exact laidMet_laidAll _ (by kernel_rfl) (by kernel_rfl))) ?_
  intro W base args ds gs before hval0 hW hsz0 hsh hL
  obtain ⟨m, hm⟩ : ∃ m, W.cell? ⟨2, 0, none⟩ = some (.int .i64 m) := Tryz.laysM143.s1_3 W hsh
  have hT := taken_of_six hL
  have hU := u10_of_six hL
  have hsz : (DataW.weightsEach Tryz.prog (Tryz.f4.params.toList ++ Rows.renderAnswersSpec.plain.varTypes Tryz.prog) (ds ++ gs)).all (· ≤ reachBytes) = true := hsz0
  clear hsz0
  have hval : ∀ (j : Nat) t v, Tryz.f4.params[j]? = some t → args[j]? = some v → Value.okWide Tryz.prog W .any base t v := hval0
  have hW' := hW
  obtain ⟨p, q, hA0, hV, rfl, _, _⟩ := hW
  have hA : DataW.TrodAll enc Tryz.prog W 0 (fun _ => true) true Tryz.f4.params.toList args.toList ds p := hA0
  rw [Tryz.params4] at hA hval hsz
  obtain ⟨v0, v1, v2, d0, d1, d2, p0, p1, p2, rfl, rfl, rfl, h0, h1, h2⟩ := trodAll_three hA
  obtain ⟨rfl, rfl⟩ := trodVars_none hV
  obtain ⟨ag, lg, qg, rfl⟩ := okWide_slice Tryz.underlying42 (hval 0 42 v0 rfl rfl)
  obtain ⟨gg, hHg, hwg⟩ := open_pairs h0
  have hzg : ∀ p ∈ gg, p.1.size ≤ 140737488351232 ∧ p.2.size ≤ 140737488351232 := fun p hp => ⟨of_decide_eq_true (List.all_eq_true.1 hsz _ (DataW.weights_mem_each (j := 0) (t := 42) rfl rfl _ (hwg p hp).1)), of_decide_eq_true (List.all_eq_true.1 hsz _ (DataW.weights_mem_each (j := 0) (t := 42) rfl rfl _ (hwg p hp).2))⟩
  obtain ⟨ca, na, va, rfl, hwna, hwva⟩ := open_cmd (hval 1 23 v1 rfl rfl) h1
  have hzna : na.size ≤ 140737488351232 := by have := of_decide_eq_true (List.all_eq_true.1 hsz _ (DataW.weights_mem_each (j := 1) (t := 23) rfl rfl _ hwna)); rw [size_listG] at this; exact this
  have hzva : va.size ≤ 140737488351232 := by have := of_decide_eq_true (List.all_eq_true.1 hsz _ (DataW.weights_mem_each (j := 1) (t := 23) rfl rfl _ hwva)); rw [size_listG] at this; exact this
  obtain ⟨er, tr, tvr, Tr, rfl, hTr, hwtr, hwr, hrr⟩ := open_reply (hval 2 44 v2 rfl rfl) h2
  have hzr : ∀ t ∈ Tr, t.length ≤ 140737488351232 := fun t ht => of_decide_eq_true (List.all_eq_true.1 hsz _ (DataW.weights_mem_each (j := 2) (t := 44) rfl rfl _ (hwr t ht)))
  have hztr : tr.size ≤ 140737488351232 := by have := of_decide_eq_true (List.all_eq_true.1 hsz _ (DataW.weights_mem_each (j := 2) (t := 44) rfl rfl _ hwtr)); rw [size_listG] at this; exact this
  refine (answers_walk gg _ ca na va er tr tvr Tr m W hHg hzg hzna hzva hTr hzr hztr hrr hm hT hU).mono fun e W' ⟨he, hb⟩ => ?_
  subst he
  exact ⟨_, rfl, law_shut laidOut (by kernel_rfl) (by kernel_rfl) Tryz.underlying4 rfl hW' rfl hb⟩

theorem answers_holds : Rows.RenderAnswersSaid :=
  OpenClaim.holds_of_wide 4 Tryz.f4 rfl rfl rfl rfl rfl rfl rfl ⟨rfl, rfl, rfl, rfl, rfl⟩ rfl rfl rfl rfl rfl (by kernel_rfl) Tryz.func4 (by kernel_rfl)
    (of_decide_eq_true (by kernel_rfl)) (by unfold Func.isWrapper; rw [if_neg (of_decide_eq_false (by kernel_rfl))]; exact ⟨rfl, rfl⟩)
    (fun os started H enc _ => answers_lifted os started H enc)

theorem answers_card : Rows.RenderAnswersCardSaid :=
  Claim7.holds_tied_plain_at .later [] [.data, .data, .data, .data, .data, .pinned] true _ false answers_holds (fun _ h => by cases h) (by kernel_rfl) (fun _ h => by cases h) renderAnswers_row_tie rfl ⟨rfl, rfl⟩ (by kernel_rfl) rfl
    (fun f fn hf hfn => by
      obtain rfl : f = 4 := Option.some.inj ((show Tryz.prog.funcNamed "taxirank/taxiranklaw13.RenderAnswers" = some 4 by kernel_rfl).symm.trans hf) |>.symm
      obtain rfl : fn = Tryz.f4 := (Option.some.inj (Tryz.func4.symm.trans hfn)).symm
      exact ⟨by kernel_rfl, fun j t ht => by
        rw [Tryz.params4] at ht
        have hm : t ∈ [42, 23, 44] := by simpa using Array.mem_of_getElem? ht
        have hall : ([42, 23, 44].all fun u => !Tryz.prog.wantsStandIn u) = true := by kernel_rfl
        exact (show Tryz.prog.wantsStandIn t = false by simpa using List.all_eq_true.1 hall t hm)⟩)
    (by kernel_rfl)
end Go.Proofs.YtpijolcklmdjbaaGreatDoor
