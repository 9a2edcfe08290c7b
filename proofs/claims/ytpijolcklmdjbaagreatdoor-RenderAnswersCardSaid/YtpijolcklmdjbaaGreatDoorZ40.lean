/- Contracts and mathematics: DDec, GReadM, GFew. -/
import Derived.Test.YtpijolcklmdjbaaGreatDoorZ39
import Derived.Test.YtpijolcklmdjbaaGreatDoorZ31
import Derived.Test.YtpijolcklmdjbaaGreatDoorZ33
namespace Go.Proofs.YtpijolcklmdjbaaGreatDoor
open Go.RowKit Go.Lib Go.WideShapes

/-- What Decode answers for a body. -/
def readD (back : Bool) (c : UInt8) (S : Bs) : Option (List Bs × List Int) := if 10000 < S.length then none else readL back c S

theorem own_three {w : World} {base n : Nat} {e : TypeId} {v : Value} {xs : List Value} (h : w.ownsRow base e 1 v n xs) (b : Nat) (hb : b < base) (v0 v1 v2 : Value) : (((w.setCell ⟨b, 0, none⟩ v0).setCell ⟨b, 1, none⟩ v1).setCell ⟨b, 2, none⟩ v2).ownsRow base e 1 v n xs :=
  ownsRow_setCell_below (ownsRow_setCell_below (ownsRow_setCell_below h (a := ⟨b, 0, none⟩) hb v0) (a := ⟨b, 1, none⟩) hb v1) (a := ⟨b, 2, none⟩) hb v2

set_option maxRecDepth 100000 in
set_option maxHeartbeats 8000000 in
theorem decode_any (w : World) (back : Bool) (c : UInt8) (S : Bs) (hl : S.length ≤ 800000) :
    Calls Tryz.prog 12 #[.bool back, .agg #[.int .u8 (c.toNat : Nat), .string ⟨S.toArray⟩]] w (MsgOut w c 2 (readD back c S)) := by
  obtain ⟨ci, hci⟩ : ∃ ci : Int, ci = (c.toNat : Nat) := ⟨_, rfl⟩
  obtain ⟨sb, hsb⟩ : ∃ sb : ByteArray, sb = ⟨S.toArray⟩ := ⟨_, rfl⟩
  have hsz : sb.size = S.length := by rw [hsb, bsize]
  obtain ⟨W0, hW0⟩ : ∃ x, x = (w.alloc (.cells #[.int .u8 ci, .string sb] 33)).alloc (.cells #[.int .u8 0, .slice none 0 0, .slice none 0 0] 39) := ⟨_, rfl⟩
  have hz : W0.heap.size = w.heap.size + 1 + 1 := by rw [hW0]; simp
  have HB := Lib.hid (show Below w.heap.size w W0 by rw [hW0]; exact ((Below.refl _ _).alloc (Nat.le_refl _) _).alloc (by simp) _)
  have HK := Lib.hid (show ∀ W, Below W0.heap.size W0 W → W.cell? ⟨w.heap.size + 1, 0, none⟩ = some (.int .u8 0) ∧ W.cell? ⟨w.heap.size + 1, 1, none⟩ = some (.slice none 0 0) ∧ W.cell? ⟨w.heap.size + 1, 2, none⟩ = some (.slice none 0 0) ∧ W.frozen? ⟨w.heap.size + 1, 0, none⟩ = false ∧ W.frozen? ⟨w.heap.size + 1, 1, none⟩ = false ∧ W.frozen? ⟨w.heap.size + 1, 2, none⟩ = false from by
    intro W hW
    have k : ∀ i, W.cell? ⟨w.heap.size + 1, i, none⟩ = W0.cell? ⟨w.heap.size + 1, i, none⟩ := fun i => hW.cell (p := ⟨w.heap.size + 1, i, none⟩) (by show w.heap.size + 1 < _; omega)
    have f : ∀ i, W.frozen? ⟨w.heap.size + 1, i, none⟩ = W0.frozen? ⟨w.heap.size + 1, i, none⟩ := fun i => hW.frozen (p := ⟨w.heap.size + 1, i, none⟩) (by show w.heap.size + 1 < _; omega)
    refine ⟨(k 0).trans ?_, (k 1).trans ?_, (k 2).trans ?_, (f 0).trans ?_, (f 1).trans ?_, (f 2).trans ?_⟩ <;> (rw [hW0]; simp [go_sem]))
  have HE := Lib.hid hW0
  have HZ := Lib.hid hz
  have HCI := Lib.hid hci
  have HRD := Lib.hid (read_any W0 back c S hl)
  rw [← hci, ← hsb] at HRD
  rw [← hci, ← hsb]
  by_cases hlong : 10000 < S.length
  · have hl' : (10000 : Int) < sb.size := by omega
    have HR := Lib.hid (show readD back c S = none from if_pos hlong)
    rw [HR.out]
    have b := HK.out W0 (Below.refl _ _)
    clear hW0 hz hsb hsz hci hlong hl
    go_enter Tryz.func12, Tryz.ntmps12
    go_wp2_with fail
    simp [bodyPost, results, Tryz.results12, go_sem]
    refine ⟨rfl, ?_⟩
    first | exact ((Below.refl _ _).alloc (Nat.le_refl _) _).alloc (by simp) _ | exact ((((((Below.refl _ _).alloc (Nat.le_refl _) _).alloc (by simp) _).setCell (by simp) _).setCell (by simp) _).setCell (by simp) _)
  · have hl' : ¬ (10000 : Int) < sb.size := by omega
    have HR := Lib.hid (show readD back c S = readL back c S from if_neg hlong)
    rw [HR.out]
    generalize readL back c S = R at HRD ⊢
    clear hW0 hz hsb hsz hci hlong hl
    go_enter Tryz.func12, Tryz.ntmps12
    go_wp2_with fail
    rw [← HE.out]
    cases R with
    | none =>
      refine HRD.out.mono ?_; rintro e w1 ⟨rfl, hb⟩
      obtain ⟨b0, b1, b2, g0, g1, g2⟩ := HK.out w1 hb
      have HB1 := Lib.hid (HB.out.trans (hb.mono (by rw [HZ.out]; omega)))
      clear hb
      go_wp2_with fail
      simp [bodyPost, results, Tryz.results12, go_sem, b0, b1, b2]
      exact ⟨rfl, ((HB1.out.setCell (by show w.heap.size ≤ w.heap.size + 1; omega) _).setCell (by show w.heap.size ≤ w.heap.size + 1; omega) _).setCell (by show w.heap.size ≤ w.heap.size + 1; omega) _⟩
    | some p =>
      obtain ⟨T, N⟩ := p
      refine HRD.out.mono ?_; rintro e w1 ⟨tv, nv, rfl, hT, hN, hb⟩
      obtain ⟨b0, b1, b2, g0, g1, g2⟩ := HK.out w1 hb
      have HB1 := Lib.hid (HB.out.trans (hb.mono (by rw [HZ.out]; omega)))
      rw [HZ.out] at hT hN
      have HT := Lib.hid hT; have HN := Lib.hid hN
      obtain ⟨ta, tc, rfl⟩ := ownsRow_form hT
      obtain ⟨na, nc, rfl⟩ := ownsRow_form hN
      rw [← HCI.out]
      clear hb hT hN
      go_wp2_with fail
      simp [bodyPost, results, Tryz.results12, go_sem, b0, b1, b2]
      exact ⟨_, _, by rw [HCI.out], own_base (own_three HT.out _ (by omega) _ _ _) (by omega), own_base (own_three HN.out _ (by omega) _ _ _) (by omega), ((HB1.out.setCell (by show w.heap.size ≤ w.heap.size + 1; omega) _).setCell (by show w.heap.size ≤ w.heap.size + 1; omega) _).setCell (by show w.heap.size ≤ w.heap.size + 1; omega) _⟩
end Go.Proofs.YtpijolcklmdjbaaGreatDoor

namespace Go.Proofs.YtpijolcklmdjbaaGreatDoor
open Go.RowKit Go.Lib Go.WideShapes

theorem w_type {x : Mg} (h : encE x.w = 0) : 0 < x.c.toNat := by
  rcases Nat.eq_zero_or_pos x.c.toNat with h0 | h0
  · exfalso
    have hc : x.c = 0 := UInt8.toNat_inj.1 h0
    have hw : x.w = none := by
      unfold Mg.w written
      rw [hc]
      have : layW true 0 x.N = none := by unfold layW; rw [if_neg (by simp)]; rfl
      rw [this]; rfl
    rw [hw] at h
    exact absurd h (by decide)
  · exact h0
theorem w_some {x : Mg} (h : encE x.w = 0) : ∃ B, x.w = some B ∧ B.length ≤ 10000 := by
  have hl := encE_len h
  cases hw : x.w with
  | none => rw [hw] at h; exact absurd h (by decide)
  | some B => rw [hw] at hl; exact ⟨B, rfl, hl⟩
theorem w_read {x : Mg} (h : encE x.w = 0) : readD true x.c ((x.w).getD []) = some (x.T, x.N) := by
  obtain ⟨B, hw, hl⟩ := w_some h
  rw [hw]
  show readD true x.c B = _
  unfold readD
  rw [if_neg (by omega)]
  exact read_of_written hw
theorem togB_cons (x : Mg) (r : List Mg) : (⟨(togB (x :: r)).toArray⟩ : ByteArray) = x.s ++ ⟨(togB r).toArray⟩ := by
  apply ByteArray.ext
  apply Array.toList_inj.1
  simp [togB, bytes]
theorem take_msg {x : Mg} (h : encE x.w = 0) (tail : ByteArray) (w : World) :
    Calls Tryz.prog 11 #[.string (x.s ++ tail), .bool false] w fun e w' => e = .returned (.tuple #[.agg #[.int .u8 (x.c.toNat : Nat), .string ⟨((x.w).getD []).toArray⟩], .string tail, .int .i64 0]) ∧ Below w.heap.size w w' := by
  have hc := w_type h
  have hc2 := UInt8.toNat_lt x.c
  have hl := encE_len h
  have hbare : isBare (x.c.toNat : Int) = false := by unfold isBare; simp; omega
  have hp := good_pack (x.c.toNat : Int) (by omega) ⟨((x.w).getD []).toArray⟩ tail (x.s ++ tail) (by rw [bsize]; exact hl) rfl
  rw [hbare] at hp
  obtain ⟨h1, h2, h3, h4⟩ := hp
  have := take_good (x.s ++ tail) false w h1
  rw [h2, h3, h4] at this
  exact this
theorem togE_all : ∀ {L : List Mg}, togE L = 0 → ∀ x ∈ L, encE x.w = 0
  | [], _, x, hx => by cases hx
  | y :: r, h, x, hx => by
    have e : togE (y :: r) = if encE y.w = 0 then togE r else encE y.w := rfl
    rw [e] at h
    by_cases hy : encE y.w = 0
    · rw [if_pos hy] at h
      rcases List.mem_cons.1 hx with rfl | hx
      · exact hy
      · exact togE_all h x hx
    · rw [if_neg hy] at h; exact absurd h hy
theorem out_length (nm : Bs) (err : Int) (tag : Bs) (Row : List Bs) (hR : Row.length ≤ 1) : (outM nm err tag Row).length = if err = 0 then 2 * Row.length + 1 else 1 := by
  unfold outM
  split
  · cases Row with
    | nil => rfl
    | cons v r =>
      have : r = [] := List.eq_nil_of_length_eq_zero (by rw [List.length_cons] at hR; omega)
      subst this; rfl
  · rfl
theorem ans_length (G : Pairs) (nm : Bs) (err : Int) (tag : Bs) (Row : List Bs) (st : Int) : (ansM G nm err tag Row st).length = G.length + (outM nm err tag Row).length + 1 := by
  unfold ansM sM
  rw [List.length_append, List.length_append, List.length_map, List.length_singleton]
theorem ans_pair {G : Pairs} {nm tag : Bs} {err st : Int} {Row : List Bs} {j : Nat} (h : j < G.length) : (ansM G nm err tag Row st)[j]? = some ⟨83, [bytes G[j].1, bytes G[j].2], []⟩ := by
  unfold ansM sM
  rw [List.getElem?_append_left (by simp; omega), List.getElem?_append_left (by simp; omega), List.getElem?_map, List.getElem?_eq_getElem h]; rfl
theorem out_kind {nm tag : Bs} {err : Int} {Row : List Bs} : ∀ x ∈ outM nm err tag Row, x.c ≠ 83 := by
  intro x hx
  unfold outM at hx
  split at hx
  · rcases List.mem_append.1 hx with hx | hx
    · cases Row with
      | nil => cases hx
      | cons v r =>
        simp only [rowM, List.mem_cons, List.not_mem_nil, or_false] at hx
        rcases hx with rfl | rfl
        · exact (by decide : (84 : UInt8) ≠ 83)
        · exact (by decide : (68 : UInt8) ≠ 83)
    · rw [List.mem_singleton] at hx
      subst hx
      split
      · exact (by decide : (73 : UInt8) ≠ 83)
      · exact (by decide : (67 : UInt8) ≠ 83)
  · rw [List.mem_singleton] at hx
    subst hx; exact (by decide : (69 : UInt8) ≠ 83)
theorem ans_kind {G : Pairs} {nm tag : Bs} {err st : Int} {Row : List Bs} {j : Nat} {x : Mg} (h : G.length ≤ j) (hx : (ansM G nm err tag Row st)[j]? = some x) : x.c ≠ 83 := by
  unfold ansM at hx
  have hs : (sM G).length = G.length := by unfold sM; simp
  by_cases hl : j < (sM G ++ outM nm err tag Row).length
  · rw [List.getElem?_append_left hl, List.getElem?_append_right (by omega)] at hx
    exact out_kind x (List.mem_of_getElem? hx)
  · rw [List.getElem?_append_right (by omega)] at hx
    have := List.mem_of_getElem? hx
    rw [List.mem_singleton] at this
    subst this; exact (by decide : (90 : UInt8) ≠ 83)
theorem ans_last (G : Pairs) (nm : Bs) (err : Int) (tag : Bs) (Row : List Bs) (st : Int) : (ansM G nm err tag Row st)[(ansM G nm err tag Row st).length - 1]? = some ⟨90, [], [st]⟩ := by
  unfold ansM
  rw [List.length_append, List.length_singleton, Nat.add_sub_cancel, List.getElem?_append_right (Nat.le_refl _), Nat.sub_self]; rfl
def wantC (err : Int) (tag : Bs) : UInt8 := if err = 0 then (if tag = [] then 73 else 67) else 69
theorem two_last (A : List Mg) (x y : Mg) : ((A ++ [x]) ++ [y])[((A ++ [x]) ++ [y]).length - 2]? = some x := by
  rw [List.length_append, List.length_append, List.length_singleton, List.length_singleton, show A.length + 1 + 1 - 2 = A.length by omega, List.getElem?_append_left (by rw [List.length_append, List.length_singleton]; omega), List.getElem?_append_right (Nat.le_refl _), Nat.sub_self]; rfl
theorem ans_want (G : Pairs) (nm : Bs) (err : Int) (tag : Bs) (Row : List Bs) (st : Int) : ∃ x, (ansM G nm err tag Row st)[(ansM G nm err tag Row st).length - 2]? = some x ∧ x.c = wantC err tag := by
  unfold ansM wantC outM
  by_cases h : err = 0
  · rw [if_pos h, if_pos h]
    by_cases ht : tag = []
    · rw [if_pos ht, if_pos ht, ← List.append_assoc]
      exact ⟨_, two_last _ _ _, rfl⟩
    · rw [if_neg ht, if_neg ht, ← List.append_assoc]
      exact ⟨_, two_last _ _ _, rfl⟩
  · rw [if_neg h, if_neg h]
    exact ⟨_, two_last _ _ _, rfl⟩
end Go.Proofs.YtpijolcklmdjbaaGreatDoor

namespace Go.Proofs.YtpijolcklmdjbaaGreatDoor
open Go.RowKit Go.Lib Go.WideShapes

set_option maxRecDepth 100000 in
set_option maxHeartbeats 8000000 in
theorem few13_any (v tv : Value) (g : Pairs) (T : List Bs) (w : World) (h : Holds w v g) (hT : TextsIn w tv T) (hz : ∀ p ∈ g, p.1.size ≤ 140737488351232 ∧ p.2.size ≤ 140737488351232) (hzt : ∀ t ∈ T, t.length ≤ 140737488351232) :
    Calls Tryz.prog 13 #[v, tv] w fun e w' => e = .returned (.bool (decide (weight g + rsum T < 3000))) ∧ Below w.heap.size w w' := by
  obtain ⟨a, c, rfl⟩ := h.form
  have hlen := h.len
  obtain ⟨at', nt, ct, rfl, hlt', hct, hct2, hTc⟩ := hT
  have H := Lib.hid h
  have HZ := Lib.hid hz
  have HZT := Lib.hid hzt
  have HTC := Lib.hid hTc
  have HLT := Lib.hid hlt'
  have hnn : (nt : Int) ≤ 9223372036854775807 := by omega
  clear h hz hzt hTc hlt'
  go_enter Tryz.func13, Tryz.ntmps13
  go_wp2_with fail
  go_loopw [5, 6] (fun n i wr => ∃ k m : Nat, k ≤ g.length ∧ i = .int .i64 k ∧ n = .int .i64 m ∧ m = weight (g.take k) ∧ m ≤ 300000000000000 ∧ Below w.heap.size w wr) (fun _ i _ => g.length - (RowKit.intOf i).toNat)
  case atStart => exact ⟨0, 0, Nat.zero_le _, rfl, rfl, rfl, by omega, Below.refl _ _⟩
  case round =>
    obtain ⟨k, m, hk, rfl, rfl, hM, hm, hB⟩ := hrel
    have HM := Lib.hid hM; have HB := Lib.hid hB
    clear hM
    by_cases hlt : k < g.length
    · by_cases h3 : m < 3000
      · obtain ⟨b, off, rfl, hb, hc⟩ := H.out.open (by omega)
        have c0 := (hB.cell (p := ⟨b, off + k * 2, none⟩) hb).trans (hc k hlt).1
        have c1 := (hB.cell (p := ⟨b, off + k * 2 + 1, none⟩) hb).trans (hc k hlt).2
        have hzz := HZ.out g[k] (List.getElem_mem hlt)
        have HT := Lib.hid (weight_take hlt)
        obtain ⟨x, hx⟩ : ∃ x, x = g[k].1 := ⟨_, rfl⟩
        obtain ⟨y, hy⟩ : ∃ y, y = g[k].2 := ⟨_, rfl⟩
        rw [← hx] at c0 hzz; rw [← hy] at c1 hzz
        rw [← hx, ← hy] at HT
        obtain ⟨z1, z2⟩ := hzz
        clear hc hB hx hy
        have h3i : (m : Int) < 3000 := by omega
        go_wp2_with fail
        have hlt' : (k : Int) < g.length := by omega
        have s1 : IntKind.i64.wrap ((m : Int) + 1) = (m : Int) + 1 := by rw [IntKind.wrap_i64]; omega
        have s2 : IntKind.i64.wrap ((m : Int) + 1 + x.size) = (m : Int) + 1 + x.size := by rw [IntKind.wrap_i64]; omega
        have s3 : IntKind.i64.wrap ((m : Int) + 1 + x.size + y.size) = (m : Int) + 1 + x.size + y.size := by rw [IntKind.wrap_i64]; omega
        go_quiet (fail)
        clear s1 s2 s3
        go_wp2_with fail
        go_roundw
        case rel => exact ⟨k + 1, m + 1 + x.size + y.size, by omega, by go_num, by go_num, by rw [HT.out, ← HM.out], by omega, below_drewN HB.out _⟩
        case measure => simp [RowKit.intOf]; omega
      · have h3i : ¬ (m : Int) < 3000 := by omega
        have HG := Lib.hid (show decide (weight g + rsum T < 3000) = decide ((m : Int) < 3000) by
          have := weight_le g k
          rw [← HM.out] at this
          rw [decide_eq_false (by omega), decide_eq_false (by omega)])
        clear hB
        go_wp2_with fail
        go_loopw [5, 7] (fun n i wx => n = .int .i64 m ∧ i = .int .i64 0 ∧ wx = wr) (fun _ _ _ => 0)
        case atStart => exact ⟨rfl, rfl, rfl⟩
        case round =>
          obtain ⟨rfl, rfl, rfl⟩ := hrel
          by_cases h0 : 0 < nt
          · have h0' : (0 : Int) < nt := by omega
            go_wp2_with fail
            go_ret
            exact ⟨by rw [HG.out]; first | rfl | (rw [decide_eq_false (by omega)]; rfl), HB.out⟩
          · have h0' : ¬ (0 : Int) < nt := by omega
            go_wp2_with fail
            go_ret
            exact ⟨by rw [HG.out]; first | rfl | (rw [decide_eq_false (by omega)]; rfl), HB.out⟩
    · obtain rfl : k = g.length := by omega
      have hd : decide (g.length < g.length) = false := by simp
      have HM := Lib.hid (show m = weight g by have := HM.out; rw [List.take_length] at this; exact this)
      clear hB hlt
      go_wp2_with fail
      go_loopw [5, 7] (fun n i wx => ∃ j q : Nat, j ≤ nt ∧ i = .int .i64 j ∧ n = .int .i64 q ∧ q = m + rsum (T.take j) ∧ q ≤ 600000000000000 ∧ wx = wr) (fun _ i _ => nt - (RowKit.intOf i).toNat)
      case atStart => exact ⟨0, m, Nat.zero_le _, rfl, rfl, rfl, by omega, (by trivial)⟩
      case round =>
        obtain ⟨j, q, hj, rfl, rfl, hQ, hq, rfl⟩ := hrel
        have HQ := Lib.hid hQ
        clear hQ
        by_cases hjt : j < nt
        · have hjt' : (j : Int) < nt := by omega
          by_cases h3 : q < 3000
          · have h3' : (q : Int) < 3000 := by omega
            have hjT : j < T.length := by rw [HLT.out]; exact hjt
            obtain ⟨gt, ot, rfl, hg, hcell⟩ : ∃ g off, at' = some ⟨g, off, none⟩ ∧ g < w.heap.size ∧ ∀ (i : Nat) (t : Bs), T[i]? = some t → w.cell? ⟨g, off + i, none⟩ = some (.string ⟨t.toArray⟩) := by
              rcases HTC.out with h | h
              · rw [h] at hjT; cases hjT
              · exact h
            have d0 := (HB.out.cell (p := ⟨gt, ot + j, none⟩) hg).trans (hcell j _ (List.getElem?_eq_getElem hjT))
            have hsz := HZT.out _ (List.getElem_mem hjT)
            have HX := Lib.hid (rsum_next hjT)
            generalize T[j] = t at d0 hsz HX
            have HS := Lib.hid (bsize t)
            generalize (⟨t.toArray⟩ : ByteArray) = s at d0 HS
            have hsz2 : s.size ≤ 140737488351232 := by rw [HS.out]; exact hsz
            clear hcell hjT hsz
            go_wp2_with fail
            go_roundw
            case measure => first | omega | (simp [RowKit.intOf]; omega)
            case rel => exact ⟨j + 1, q + 1 + s.size, by omega, by go_num, by go_num, by rw [HX.out, HQ.out, HS.out]; omega, by omega, (by trivial)⟩
          · have h3' : ¬ (q : Int) < 3000 := by omega
            have HG := Lib.hid (show decide (weight g + rsum T < 3000) = decide ((q : Int) < 3000) by
              have h2 := HQ.out
              have h4 := rsum_split T j
              have h5 := HM.out
              rw [decide_eq_false (by omega), decide_eq_false (by omega)])
            go_wp2_with fail
            go_ret
            exact ⟨by rw [HG.out]; first | rfl | (rw [decide_eq_false (by omega)]; rfl), HB.out⟩
        · have hjt' : ¬ (j : Int) < nt := by omega
          have hjn : j = nt := by omega
          have HG := Lib.hid (show decide (weight g + rsum T < 3000) = decide ((q : Int) < 3000) by
            have h2 := HQ.out
            rw [hjn, ← HLT.out, List.take_length] at h2
            have h5 := HM.out
            by_cases h6 : q < 3000
            · rw [decide_eq_true (by omega), decide_eq_true (by omega)]
            · rw [decide_eq_false (by omega), decide_eq_false (by omega)])
          go_wp2_with fail
          go_ret
          exact ⟨by rw [HG.out]; first | rfl | (rw [decide_eq_false (by omega)]; rfl), HB.out⟩
end Go.Proofs.YtpijolcklmdjbaaGreatDoor
