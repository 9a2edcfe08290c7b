/- Whatever else a first message says, user and database are those that it tells first; without a database it is the user's: FrontNames answers true, whatever it is called with, and leaves what was there as it was. (Over the listed variables, tied to the program's text.) -/
import Derived.Test.YtmofnkinclckoaaDoorZ12
import Derived.BigQuiet
import Derived.Deep.QuietTactic
namespace Go.Proofs.YtmofnkinclckoaaDoor
open Go.RowKit Go.Lib Go.WideShapes Go.ChangeShapes Go.ChangeAt Go.Joins

/-- A front that was fed nothing lies in two blocks. -/
theorem fresh_keep {w w' : World} {p q : Nat} {s : ByteArray} {b : Bool} (h : FIs w p q (.slice none 0 0) s b) (hp : w'.heap[p]? = w.heap[p]?) (hq : w'.heap[q]? = w.heap[q]?) : FIs w' p q (.slice none 0 0) s b :=
  ⟨h.cell.same hp, ⟨hq.trans h.rd.heap, h.rd.own.kept (fun k hk => by simp [Value.ownBlock] at hk)⟩, h.ne, h.row⟩
theorem put_below {w0 w w' : World} {b : Nat} {row : Option Nat} (h : Below b w0 w) (hb : b ≤ w.heap.size) (ho : w'.os = w.os) (ht : w'.tape = w.tape) (hu : w'.output = w.output) (hz : w.heap.size ≤ w'.heap.size) (hk : ∀ k, k < w.heap.size → some k ≠ row → w'.heap[k]? = w.heap[k]?) (hr : ∀ k, row = some k → b ≤ k) : Below b w0 w' :=
  ⟨ho.trans h.os, ht.trans h.tape, hu.trans h.output, Nat.le_trans h.size hz, fun k hkb => (hk k (by omega) (fun e => by have := hr k e.symm; omega)).trans (h.block k hkb)⟩
theorem room_pairs {T : List Bs} {N : List Int} {m : Nat} (h : ∀ t ∈ T, t.length ≤ m) (hl : T.length ≤ 49) (hm : m ≤ 200) (hn : N.length ≤ 3) : room ⟨T, N, []⟩ ≤ 800000 := by
  have hs : ∀ T : List Bs, (∀ t ∈ T, t.length ≤ m) → (T.map fun t => t.length + 19).sum ≤ T.length * 219 := by
    intro T
    induction T with
    | nil => simp
    | cons a r ih =>
      intro h
      have h1 := h a List.mem_cons_self
      have h2 := ih (fun t ht => h t (List.mem_cons_of_mem _ ht))
      simp only [List.map_cons, List.sum_cons, List.length_cons]
      omega
  have := hs T h
  unfold room
  simp
  omega
set_option maxRecDepth 100000 in
set_option maxHeartbeats 16000000 in
theorem names_walk (tv : Value) (T : List Bs) (ub db : ByteArray) (w : World) (hT : TextsIn w tv T) (hTz : ∀ t ∈ T, t.length ≤ 140737488351232) (hs : ub.size ≤ 140737488351232) (ht : db.size ≤ 140737488351232) :
    Calls Tryd.prog 5 #[tv, .string ub, .string db] w fun e w' => e = .returned (.bool true) ∧ Below w.heap.size w w' := by
  have HT := Lib.hid hT; have HTZ := Lib.hid hTz
  obtain ⟨ta, n, tc, rfl, hTl, hnc, htc9, hTc⟩ := hT
  have HTL := Lib.hid hTl; have HTC := Lib.hid hTc
  clear hTl hTc hTz
  go_enter Tryd.func5, Tryd.ntmps5
  go_wp2_with fail
  refine (shown18 w).mono ?_; rintro e w1 ⟨rfl, hb⟩
  have B1 := Lib.hid hb
  clear hb
  go_wp2_with fail
  refine (newF_any w1).mono ?_; rintro e w2 ⟨p, q, rfl, hF, hb, hp, hq⟩
  have B2 := Lib.hid (B1.out.step hb B1.out.size)
  have HF2 := Lib.hid hF
  have HP2 := Lib.hid (show w.heap.size ≤ p ∧ w.heap.size ≤ q from by have := B1.out.size; omega)
  clear hF hb hp hq
  go_wp2_with fail
  refine (newF_any w2).mono ?_; rintro e w3 ⟨p2, q2, rfl, hG, hb, hp, hq⟩
  have B3 := Lib.hid (B2.out.step hb B2.out.size)
  have HF3 := Lib.hid (HF2.out.grown hb)
  have HG3 := Lib.hid hG
  have HP := Lib.hid (show w.heap.size ≤ p ∧ w.heap.size ≤ q ∧ w.heap.size ≤ p2 ∧ w.heap.size ≤ q2 from by have := B2.out.size; have := HP2.out; omega)
  have HPP := Lib.hid (show p < p2 ∧ p < q2 ∧ q < p2 ∧ q < q2 from by have := HF2.out.cell.lt; have := HF2.out.rd.lt; omega)
  have HPL3 := Lib.hid (show p < w3.heap.size ∧ q < w3.heap.size ∧ p2 < w3.heap.size ∧ q2 < w3.heap.size from ⟨HF3.out.cell.lt, HF3.out.rd.lt, hG.cell.lt, hG.rd.lt⟩)
  clear hG hb hp hq
  by_cases h20 : 20 < n
  · have h21 : decide ((20 : Int) < n) = true := decide_eq_true (by omega)
    go_wp2_with fail
    go_ret
    exact ⟨rfl, B3.out⟩
  have h21 : decide ((20 : Int) < n) = false := decide_eq_false (by omega)
  by_cases hu : ub = { data := #[] }
  · subst hu
    go_wp2_with fail
    go_ret
    exact ⟨rfl, B3.out⟩
  have hu1 : ub.toList.isEmpty = false := by
    rw [Lib.toList_data]
    cases h : ub.data.toList with
    | nil => exact absurd (ByteArray.ext (Array.toList_inj.1 h)) hu
    | cons _ _ => rfl
  by_cases hd : db = { data := #[] }
  · subst hd
    go_wp2_with fail
    go_ret
    exact ⟨rfl, B3.out⟩
  have hd1 : db.toList.isEmpty = false := by
    rw [Lib.toList_data]
    cases h : db.data.toList with
    | nil => exact absurd (ByteArray.ext (Array.toList_inj.1 h)) hd
    | cons _ _ => rfl
  by_cases h200 : 200 < ub.size + db.size
  · have h201 : decide ((200 : Int) < (ub.size : Int) + db.size) = true := decide_eq_true (by omega)
    go_wp2_with fail
    go_ret
    exact ⟨rfl, B3.out⟩
  have h201 : decide ((200 : Int) < (ub.size : Int) + db.size) = false := decide_eq_false (by omega)
  have HUN := Lib.hid (show bytes ub ≠ [] from fun h => hu (ByteArray.ext (Array.toList_inj.1 h)))
  have HDN := Lib.hid (show bytes db ≠ [] from fun h => hd (ByteArray.ext (Array.toList_inj.1 h)))
  clear hu hd
  go_wp2_with fail
  clear h21 h201 hu1 hd1
  go_loopw [10, 11] (fun xv iv wr => ∃ j : Nat, iv = .int .i64 j ∧ j ≤ n ∧ TRow wr w3.heap.size xv (pairsK (T.take j)) ∧ Below w3.heap.size w3 wr ∧ ∀ (i : Nat) (t : Bs), i < j → T[i]? = some t → t.length ≤ 100 ∧ t ≠ []) (fun _ iv _ => n - (RowKit.intOf iv).toNat)
  case atStart => exact ⟨0, rfl, Nat.zero_le _, TRow.nil _ _, Below.refl _ _, fun i t h => absurd h (Nat.not_lt_zero _)⟩
  case round =>
    obtain ⟨j, rfl, hj, hTR, hb, ho⟩ := hrel
    obtain ⟨X, hX⟩ : ∃ X, X = pairsK (T.take j) := ⟨_, rfl⟩
    rw [← hX] at hTR
    have hXl : X.length = 2 * j := by rw [hX, pairsK_length, List.length_take, HTL.out, Nat.min_eq_left hj]
    have HXL := Lib.hid hXl
    have HX := Lib.hid hX; have HTR := Lib.hid hTR; have HB := Lib.hid hb; have HO := Lib.hid ho
    obtain ⟨xa, xc, rfl⟩ := hTR.form
    clear hTR hb ho hX hXl
    have BW := Lib.hid (B3.out.step HB.out B3.out.size)
    by_cases hlt : j < n
    · have hlt' : (j : Int) < n := by omega
      rcases HTC.out with h0 | ⟨g, off, rfl, hg, hc⟩
      · have := HTL.out; rw [h0] at this; simp at this; omega
      obtain ⟨t0, ht0⟩ : ∃ t0, T[j]? = some t0 := ⟨_, List.getElem?_eq_getElem (by rw [HTL.out]; exact hlt)⟩
      have c0 := (BW.out.cell (p := ⟨g, off + j, none⟩) hg).trans (hc j t0 ht0)
      obtain ⟨b0, hb0⟩ : ∃ z : ByteArray, z = ⟨t0.toArray⟩ := ⟨_, rfl⟩
      rw [← hb0] at c0
      have hbb : bytes b0 = t0 := by simp [hb0, bytes]
      have hbz : b0.size = t0.length := by rw [← hbb, bytes_len]
      have hz0 := HTZ.out t0 (List.mem_of_getElem? ht0)
      have hgr : g < wr.heap.size := by have := BW.out.size; omega
      have HT0 := Lib.hid ht0; have HBB := Lib.hid hbb
      have HCW := Lib.hid (show ∀ W : World, (∀ k, k < w.heap.size → W.heap[k]? = wr.heap[k]?) → W.cell? ⟨g, off + j, none⟩ = some (.string b0) from fun W h => (World.cell?_of_block (a := ⟨g, off + j, none⟩) (h g hg)).trans c0)
      clear hb0 ht0 hc hbb
      by_cases hl : 100 < b0.size
      · have hl1 : decide ((100 : Int) < b0.size) = true := decide_eq_true (by omega)
        go_wp2_with fail
        go_ret
        exact ⟨rfl, BW.out⟩
      have hl1 : decide ((100 : Int) < b0.size) = false := decide_eq_false (by omega)
      by_cases hn0 : b0 = { data := #[] }
      · subst hn0
        go_wp2_with fail
        go_ret
        exact ⟨rfl, BW.out⟩
      have hn1 : b0.toList.isEmpty = false := by
        rw [Lib.toList_data]
        cases h : b0.data.toList with
        | nil => exact absurd (ByteArray.ext (Array.toList_inj.1 h)) hn0
        | cons _ _ => rfl
      have HN := Lib.hid (show ∀ (i : Nat) (t : Bs), i < j + 1 → T[i]? = some t → t.length ≤ 100 ∧ t ≠ [] from fun i t hi h => by
        by_cases hik : i = j
        · subst hik
          rw [HT0.out] at h
          obtain rfl := Option.some.inj h
          exact ⟨by omega, fun e => hn0 (ByteArray.ext (Array.toList_inj.1 (by show bytes b0 = []; rw [HBB.out, e])))⟩
        · exact HO.out i t (by omega) h)
      obtain ⟨y, hy⟩ : ∃ y, y = ({ data := #[120] } : ByteArray) ++ b0 := ⟨_, rfl⟩
      have hyb : bytes y = 120 :: t0 := by rw [hy, ← HBB.out]; simp [bytes]
      have hys : ¬ 9223372036854775807 < 1 + b0.size := by omega
      have HY := Lib.hid hy
      obtain ⟨v1, w5, hrun, hTR, hz5, ho1, ho2, ho3, hbk⟩ := trow_put y HTR.out (by have := HXL.out; omega) HB.out.size
      obtain ⟨X1, hX1⟩ : ∃ Z, Z = X ++ [120 :: t0] := ⟨_, rfl⟩
      rw [hyb, ← hX1] at hTR
      have HX1 := Lib.hid hX1
      have HXL1 := Lib.hid (show X1.length = X.length + 1 from by rw [hX1]; simp)
      have hown : ∀ k, (Value.slice xa X.length xc).ownBlock = some k → w3.heap.size ≤ k := fun k hk => (HTR.out.lt k hk).1
      have HT5 := Lib.hid hTR
      have HB5 := Lib.hid (put_below HB.out HB.out.size ho1 ho2 ho3 hz5 hbk hown)
      have c5 := HCW.out w5 (fun k hk => hbk k (by have := BW.out.size; omega) (fun e => by have := hown k e.symm; have := B3.out.size; omega))
      have hg5 : g < w5.heap.size := by omega
      obtain ⟨va1, vc1, rfl⟩ := hTR.form
      have HRUN := Lib.hid hrun
      rw [hy] at HRUN
      clear hrun hTR ho1 ho2 ho3 hbk hown hX1 hyb hy
      have HZ5 := Lib.hid (Nat.le_trans HB.out.size hz5)
      obtain ⟨v2, w6, hrun, hTR, hz6, ho1, ho2, ho3, hbk⟩ := trow_put b0 HT5.out (by have := HXL.out; have := HXL1.out; omega) HZ5.out
      have HXN := Lib.hid (show pairsK (T.take (j + 1)) = X1 ++ [bytes b0] from by
        have h1 : T.take (j + 1) = T.take j ++ [t0] := by
          rw [List.take_add_one, HT0.out]; rfl
        rw [h1, pairsK_snoc, ← HX.out, ← HX1.out, HBB.out])
      rw [← HXN.out] at hTR
      have hown : ∀ k, (Value.slice va1 X1.length vc1).ownBlock = some k → w3.heap.size ≤ k := fun k hk => (HT5.out.lt k hk).1
      have HT6 := Lib.hid hTR
      have HB6 := Lib.hid (put_below HB5.out HZ5.out ho1 ho2 ho3 hz6 hbk hown)
      obtain ⟨va2, vc2, rfl⟩ := hTR.form
      have HRUN2 := Lib.hid hrun
      have hb100 : b0.size ≤ 100 := by omega
      clear hrun hTR ho1 ho2 ho3 hbk hown hn0 hl hz5 hz6 hbz hz0
      go_wp2_with (at_builtin; first | (refine run_eq_walk rfl (.tmp 80) (.tmp 86) 27 rfl _ _ rfl rfl _ _ HRUN.out ?_) | (refine run_eq_walk rfl (.tmp 88) (.tmp 93) 27 rfl _ _ rfl rfl _ _ HRUN2.out ?_))
      go_roundw
      case measure => first | omega | (simp [RowKit.intOf]; done) | (simp [RowKit.intOf]; omega)
      case rel => exact ⟨j + 1, by go_num, by omega, HT6.out, HB6.out, HN.out⟩
    · have hje : j = n := by omega
      have HXE := Lib.hid (show X = pairsK T from by rw [HX.out, hje, ← HTL.out, List.take_length])
      have HXA := Lib.hid (show ∀ x ∈ X, x ≠ [] ∧ x.length ≤ 101 from by
        intro x hx
        rw [HXE.out] at hx
        obtain ⟨t, ht9, hx⟩ := List.mem_flatMap.1 hx
        obtain ⟨i, hi, rfl⟩ := List.mem_iff_getElem.1 ht9
        have h1 := HO.out i _ (by rw [hje, ← HTL.out]; exact hi) (List.getElem?_eq_getElem hi)
        simp only [List.mem_cons, List.not_mem_nil, or_false] at hx
        rcases hx with rfl | rfl
        · exact ⟨by simp, by rw [List.length_cons]; omega⟩
        · exact ⟨h1.2, by omega⟩)
      have hXz : X.length ≤ 40 := by have := HXL.out; omega
      have hge : ¬ (j : Int) < n := by omega
      clear hje hlt
      go_wp2_with fail
      go_loopw [12] (fun iv wx => ∃ i : Nat, iv = .int .i64 i ∧ i ≤ X.length ∧ wx = wr ∧ ∀ (i' : Nat) (t : Bs), i' < i → X[i']? = some t → (0 : UInt8) ∉ t) (fun iv _ => X.length - (RowKit.intOf iv).toNat)
      case atStart => exact ⟨0, rfl, Nat.zero_le _, rfl, fun i t h => absurd h (Nat.not_lt_zero _)⟩
      case round =>
        obtain ⟨i, rfl, hi, rfl, ho⟩ := hrel
        have HO2 := Lib.hid ho
        clear ho
        by_cases hlt : i < X.length
        · have hlt' : (i : Int) < X.length := by omega
          obtain ⟨_, _, _, hxv, hxl, hxc, hxc9, hxr⟩ := HTR.out.texts
          injection hxv with e1 e2 e3
          subst e1 e2 e3
          rcases hxr with h0 | ⟨gx, ox, rfl, hgx, hcx⟩
          · rw [h0] at hlt; simp at hlt
          obtain ⟨x0, hx0⟩ : ∃ x0, X[i]? = some x0 := ⟨_, List.getElem?_eq_getElem hlt⟩
          have c0 := hcx i x0 hx0
          obtain ⟨b0, hb0⟩ : ∃ z : ByteArray, z = ⟨x0.toArray⟩ := ⟨_, rfl⟩
          rw [← hb0] at c0
          have hbb : bytes b0 = x0 := by simp [hb0, bytes]
          have hb101 : b0.size ≤ 101 := by rw [← bytes_len, hbb]; exact (HXA.out x0 (List.mem_of_getElem? hx0)).2
          have HX0 := Lib.hid hx0; have HBB := Lib.hid hbb
          clear hb0 hx0 hbb hcx hxl hxc9
          go_wp2_with fail
          go_loopw [13] (fun kv wx => ∃ k : Nat, kv = .int .i64 k ∧ k ≤ b0.size ∧ wx = wr ∧ ∀ k' : Nat, k' < k → (bytes b0)[k']? ≠ some 0) (fun kv _ => b0.size - (RowKit.intOf kv).toNat)
          case atStart => exact ⟨0, rfl, Nat.zero_le _, rfl, fun i h => absurd h (Nat.not_lt_zero _)⟩
          case round =>
            obtain ⟨k, rfl, hk, rfl, ho⟩ := hrel
            have HO3 := Lib.hid ho
            clear ho
            by_cases hkl : k < b0.size
            · have hkl' : (k : Int) < b0.size := by omega
              have hgx9 : (bytes b0)[k]? = some b0[k] := by
                rw [List.getElem?_eq_getElem (by rw [bytes_len]; exact hkl)]; rfl
              by_cases hc : b0[k] = 0
              · have hc2 : ((b0[k].toNat : Int) == 0) = true := by rw [hc]; rfl
                clear hc hgx9
                go_wp2_with fail
                go_ret
                exact ⟨rfl, BW.out⟩
              · have hc2 : ((b0[k].toNat : Int) == 0) = false := by
                  cases hb : ((b0[k].toNat : Int) == 0) with
                  | false => rfl
                  | true => exact absurd (UInt8.toNat_inj.1 (Int.ofNat.inj (eq_of_beq hb))) hc
                have HN := Lib.hid (show ∀ k' : Nat, k' < k + 1 → (bytes b0)[k']? ≠ some 0 from fun k' hi => by
                  by_cases hik : k' = k
                  · subst hik
                    rw [hgx9]; exact fun e => hc (Option.some.inj e)
                  · exact HO3.out k' (by omega))
                clear hc hgx9
                go_wp2_with fail
                go_roundw
                case measure => first | omega | (simp [RowKit.intOf]; done) | (simp [RowKit.intOf]; omega)
                case rel => exact ⟨k + 1, by go_num, by omega, (by first | rfl | trivial), HN.out⟩
            · have hkb : k = b0.size := by omega
              have HN := Lib.hid (show ∀ (i' : Nat) (t : Bs), i' < i + 1 → X[i']? = some t → (0 : UInt8) ∉ t from fun i' t hi h => by
                by_cases hik : i' = i
                · subst hik
                  rw [HX0.out] at h
                  obtain rfl := Option.some.inj h
                  intro hm
                  obtain ⟨m, hm1, hm2⟩ := List.mem_iff_getElem.1 hm
                  have hm3 : m < k := by
                    have := congrArg List.length HBB.out
                    rw [bytes_len] at this
                    omega
                  exact HO3.out m hm3 (by rw [HBB.out, List.getElem?_eq_getElem hm1, hm2])
                · exact HO2.out i' t (by omega) h)
              have hkg : ¬ (k : Int) < b0.size := by omega
              clear hkb hkl
              go_wp2_with fail
              go_roundw
              case measure => first | omega | (simp [RowKit.intOf]; done) | (simp [RowKit.intOf]; omega)
              case rel => exact ⟨i + 1, by go_num, by omega, (by first | rfl | trivial), HN.out⟩
        · have hie : i = X.length := by omega
          have HXF := Lib.hid (show ∀ x ∈ X, (0 : UInt8) ∉ x from fun x hx => by
            obtain ⟨m, hm1, hm2⟩ := List.mem_iff_getElem.1 hx
            exact HO2.out m x (by omega) (by rw [List.getElem?_eq_getElem hm1, hm2]))
          have hge2 : ¬ (i : Int) < X.length := by omega
          clear hie hlt
          have hus : ¬ 9223372036854775807 < ub.size + db.size := by omega
          go_wp2_with fail
          go_loopw [14] (fun kv wx => ∃ k : Nat, kv = .int .i64 k ∧ k ≤ ub.size + db.size ∧ wx = wr ∧ ∀ k' : Nat, k' < k → (bytes (ub ++ db))[k']? ≠ some 0) (fun kv _ => ub.size + db.size - (RowKit.intOf kv).toNat)
          case atStart => exact ⟨0, rfl, Nat.zero_le _, rfl, fun i h => absurd h (Nat.not_lt_zero _)⟩
          case round =>
            obtain ⟨k, rfl, hk, rfl, ho⟩ := hrel
            have HO3 := Lib.hid ho
            clear ho
            by_cases hkl : k < ub.size + db.size
            · have hkl' : (k : Int) < (ub.size : Int) + db.size := by omega
              have hkz : k < (ub ++ db).size := by rw [ByteArray.size_append]; exact hkl
              by_cases hc : (ub ++ db)[k] = 0
              · have hc2 : (((ub ++ db)[k].toNat : Int) == 0) = true := by rw [hc]; rfl
                clear hc
                go_wp2_with fail
                go_ret
                exact ⟨rfl, BW.out⟩
              · have hc2 : (((ub ++ db)[k].toNat : Int) == 0) = false := by
                  cases hb : (((ub ++ db)[k].toNat : Int) == 0) with
                  | false => rfl
                  | true => exact absurd (UInt8.toNat_inj.1 (Int.ofNat.inj (eq_of_beq hb))) hc
                have hgx9 : (bytes (ub ++ db))[k]? = some (ub ++ db)[k] := by
                  rw [List.getElem?_eq_getElem (by rw [bytes_len]; exact hkz)]; rfl
                have HN := Lib.hid (show ∀ k' : Nat, k' < k + 1 → (bytes (ub ++ db))[k']? ≠ some 0 from fun k' hi => by
                  by_cases hik : k' = k
                  · subst hik
                    rw [hgx9]; exact fun e => hc (Option.some.inj e)
                  · exact HO3.out k' (by omega))
                clear hc hgx9
                go_wp2_with fail
                go_roundw
                case measure => first | omega | (simp [RowKit.intOf]; done) | (simp [RowKit.intOf]; omega)
                case rel => exact ⟨k + 1, by go_num, by omega, (by first | rfl | trivial), HN.out⟩
            · have hkg : ¬ (k : Int) < (ub.size : Int) + db.size := by omega
              have hfr : (0 : UInt8) ∉ bytes (ub ++ db) := by
                intro hm
                obtain ⟨m, hm1, hm2⟩ := List.mem_iff_getElem.1 hm
                have hm3 : m < k := by rw [bytes_len, ByteArray.size_append] at hm1; omega
                exact HO3.out m hm3 (by rw [List.getElem?_eq_getElem hm1, hm2])
              have hba : bytes (ub ++ db) = bytes ub ++ bytes db := by simp [bytes]
              rw [hba] at hfr
              have HUF := Lib.hid (show (0 : UInt8) ∉ bytes ub from fun h => hfr (List.mem_append_left _ h))
              have HDF := Lib.hid (show (0 : UInt8) ∉ bytes db from fun h => hfr (List.mem_append_right _ h))
              clear hfr hba hkl
              have HZT := Lib.hid HB.out.size
              have HBT := Lib.hid BW.out.size
              obtain ⟨X10, hX10⟩ : ∃ Z, Z = X := ⟨_, rfl⟩
              obtain ⟨v10, w10, hrun, hTR, hb10⟩ := trow_copy HTR.out (by omega)
              rw [← hX10] at hTR
              have HXL10 := Lib.hid (show X10.length ≤ 40 from by rw [hX10]; exact hXz)
              have HX10 := Lib.hid hX10
              have HT10 := Lib.hid hTR
              have HZ10 := Lib.hid hb10.size
              have B10 := Lib.hid (BW.out.step hb10 BW.out.size)
              have HF10 := Lib.hid ((HF3.out.grown HB.out).grown hb10)
              have HG10 := Lib.hid ((HG3.out.grown HB.out).grown hb10)
              obtain ⟨va10, vc10, rfl⟩ := hTR.form
              have HRUN10 := Lib.hid hrun
              clear hrun hTR hb10 hX10
              obtain ⟨X11, hX11⟩ : ∃ Z, Z = X10 ++ [k_user] := ⟨_, rfl⟩
              have HXL11 := Lib.hid (show X11.length = X10.length + 1 from by rw [hX11]; simp)
              have HX11 := Lib.hid hX11
              obtain ⟨v11, w11, hrun, hTR, hz, ho1, ho2, ho3, hbk⟩ := trow_put { data := #[117, 115, 101, 114] } HT10.out (by have := HXL10.out; omega) (by have := HZ10.out; omega)
              rw [show bytes { data := #[117, 115, 101, 114] } = k_user from rfl, ← hX11] at hTR
              have hown : ∀ k, (Value.slice va10 X10.length vc10).ownBlock = some k → wr.heap.size ≤ k := fun k hk => (HT10.out.lt k hk).1
              have HT11 := Lib.hid hTR
              have HZ11 := Lib.hid (show wr.heap.size ≤ w11.heap.size from Nat.le_trans HZ10.out hz)
              have B11 := Lib.hid (put_below B10.out (Nat.le_trans HBT.out HZ10.out) ho1 ho2 ho3 hz hbk (fun k hk => Nat.le_trans HBT.out (hown k hk)))
              have HF11 := Lib.hid (fresh_keep HF10.out (hbk p HF10.out.cell.lt (fun e => by have := hown p e.symm; have := HPL3.out; have := HZT.out; omega)) (hbk q HF10.out.rd.lt (fun e => by have := hown q e.symm; have := HPL3.out; have := HZT.out; omega)))
              have HG11 := Lib.hid (fresh_keep HG10.out (hbk p2 HG10.out.cell.lt (fun e => by have := hown p2 e.symm; have := HPL3.out; have := HZT.out; omega)) (hbk q2 HG10.out.rd.lt (fun e => by have := hown q2 e.symm; have := HPL3.out; have := HZT.out; omega)))
              obtain ⟨va11, vc11, rfl⟩ := hTR.form
              have HRUN11 := Lib.hid hrun
              clear hrun hTR hz ho1 ho2 ho3 hbk hown hX11
              obtain ⟨X12, hX12⟩ : ∃ Z, Z = X11 ++ [bytes ub] := ⟨_, rfl⟩
              have HXL12 := Lib.hid (show X12.length = X11.length + 1 from by rw [hX12]; simp)
              have HX12 := Lib.hid hX12
              obtain ⟨v12, w12, hrun, hTR, hz, ho1, ho2, ho3, hbk⟩ := trow_put ub HT11.out (by have := HXL10.out; have := HXL11.out; omega) (by have := HZ11.out; omega)
              rw [show bytes ub = bytes ub from rfl, ← hX12] at hTR
              have hown : ∀ k, (Value.slice va11 X11.length vc11).ownBlock = some k → wr.heap.size ≤ k := fun k hk => (HT11.out.lt k hk).1
              have HT12 := Lib.hid hTR
              have HZ12 := Lib.hid (show wr.heap.size ≤ w12.heap.size from Nat.le_trans HZ11.out hz)
              have B12 := Lib.hid (put_below B11.out (Nat.le_trans HBT.out HZ11.out) ho1 ho2 ho3 hz hbk (fun k hk => Nat.le_trans HBT.out (hown k hk)))
              have HF12 := Lib.hid (fresh_keep HF11.out (hbk p HF11.out.cell.lt (fun e => by have := hown p e.symm; have := HPL3.out; have := HZT.out; omega)) (hbk q HF11.out.rd.lt (fun e => by have := hown q e.symm; have := HPL3.out; have := HZT.out; omega)))
              have HG12 := Lib.hid (fresh_keep HG11.out (hbk p2 HG11.out.cell.lt (fun e => by have := hown p2 e.symm; have := HPL3.out; have := HZT.out; omega)) (hbk q2 HG11.out.rd.lt (fun e => by have := hown q2 e.symm; have := HPL3.out; have := HZT.out; omega)))
              obtain ⟨va12, vc12, rfl⟩ := hTR.form
              have HRUN12 := Lib.hid hrun
              clear hrun hTR hz ho1 ho2 ho3 hbk hown hX12
              have HL12 := Lib.hid (show X12.length ≤ 42 ∧ X12 = pairsK T ++ [k_user] ++ [bytes ub] from by
                refine ⟨by have := HXL10.out; have := HXL11.out; have := HXL12.out; omega, by rw [HX12.out, HX11.out, HX10.out, HXE.out]⟩)
              have HA12 := Lib.hid (show (∀ t ∈ X12, t ≠ [] ∧ (0 : UInt8) ∉ t) ∧ (∀ t ∈ X12, t.length ≤ 200) from by
                have hu9 : (bytes ub).length ≤ 200 := by rw [bytes_len]; omega
                refine ⟨fun t ht9 => ?_, fun t ht9 => ?_⟩
                · rw [HX12.out, HX11.out, HX10.out] at ht9
                  simp only [List.mem_append, List.mem_singleton] at ht9
                  rcases ht9 with (h | rfl) | rfl
                  · exact ⟨(HXA.out t h).1, HXF.out t h⟩
                  · exact ⟨by decide, by decide⟩
                  · exact ⟨HUN.out, HUF.out⟩
                · rw [HX12.out, HX11.out, HX10.out] at ht9
                  simp only [List.mem_append, List.mem_singleton] at ht9
                  rcases ht9 with (h | rfl) | rfl
                  · have := (HXA.out t h).2; omega
                  · decide
                  · exact hu9)
              have HSA := Lib.hid (startK_any va12 X12.length vc12 X12 w12 HT12.out.texts (room_pairs HA12.out.2 (by have := HL12.out.1; omega) (Nat.le_refl _) (by simp)))
              have HKT := Lib.hid (show KTold (({ data := #[] } : ByteArray) ++ startK X12) false [⟨115, bytes ub, bytes ub, [], []⟩] (some ({ data := #[] }, true)) from by
                have h1 := start_one (T := T) HUN.out
                rw [← HL12.out.2] at h1
                have := told_texts HA12.out.1 (by rw [HL12.out.2]; simp only [List.length_append, pairsK_length, List.length_cons, List.length_nil]; omega) HA12.out.2 (by have := HL12.out.1; omega) (by rw [h1]; rfl)
                rw [h1] at this
                exact this)
              have hsz := startK_size X12
              obtain ⟨su, hsu⟩ : ∃ z, z = startK X12 := ⟨_, rfl⟩
              rw [← hsu] at HSA HKT hsz
              clear hsu
              go_wp2_with (at_builtin; first | (refine run_eq_walk rfl (.tmp 131) (.tmp 132) 27 rfl _ _ rfl rfl _ _ HRUN10.out ?_) | (refine run_eq_walk rfl (.tmp 133) (.tmp 134) 27 rfl _ _ rfl rfl _ _ HRUN11.out ?_) | (refine run_eq_walk rfl (.tmp 136) (.tmp 138) 27 rfl _ _ rfl rfl _ _ HRUN12.out ?_))
              refine HSA.out.mono ?_; rintro e ws ⟨rfl, hb⟩
              have HGS := Lib.hid (HG12.out.grown hb)
              have HFS := Lib.hid (HF12.out.grown hb)
              have HTS := Lib.hid (HT12.out.grown hb)
              have BS := Lib.hid (B12.out.step hb B12.out.size)
              have HZS := Lib.hid (Nat.le_trans HZ12.out hb.size)
              clear hb HSA HRUN10 HRUN11 HRUN12
              go_wp2_with fail
              refine (feed_told HGS.out (by show 0 + _ ≤ _; omega) HKT.out).mono ?_; rintro e wf ⟨av, vg, rfl, hE, hS, hT, hv⟩
              have hrw : ∀ k, (Value.slice va12 X12.length vc12).ownBlock = some k → wf.heap[k]? = ws.heap[k]? := fun k hk => by
                have h9 := HTS.out.lt k hk
                have := HPL3.out; have := HZT.out
                exact hT.block k h9.2 (by omega) (by omega) (by simp [Value.ownBlock])
              have HT12 := Lib.hid (HTS.out.kept hrw)
              have HZ12 := Lib.hid (Nat.le_trans HZS.out hT.size)
              have B12 := Lib.hid (show Below w.heap.size w wf from BS.out.trans (hT.below (B := w.heap.size) BS.out.size HP.out.2.2.1 HP.out.2.2.2 (by simp [Value.ownBlock])))
              have HF12 := Lib.hid (fresh_keep HFS.out (hT.block p HFS.out.cell.lt (by have := HPP.out; omega) (by have := HPP.out; omega) (by simp [Value.ownBlock])) (hT.block q HFS.out.rd.lt (by have := HPP.out; omega) (by have := HPP.out; omega) (by simp [Value.ownBlock])))
              have HAR12 := Lib.hid hE.k
              have HWS := Lib.hid (show wr.heap.size ≤ ws.heap.size from HZS.out)
              obtain ⟨aa, ac, rfl⟩ := HAR12.out.form
              clear hE hS hT hv hrw HKT hsz
              obtain ⟨X13, hX13⟩ : ∃ Z, Z = X12 ++ [k_database] := ⟨_, rfl⟩
              have HXL13 := Lib.hid (show X13.length = X12.length + 1 from by rw [hX13]; simp)
              have HX13 := Lib.hid hX13
              obtain ⟨v13, w13, hrun, hTR, hz, ho1, ho2, ho3, hbk⟩ := trow_put { data := #[100, 97, 116, 97, 98, 97, 115, 101] } HT12.out (by have := HL12.out.1; omega) (by have := HZ12.out; omega)
              rw [show bytes { data := #[100, 97, 116, 97, 98, 97, 115, 101] } = k_database from rfl, ← hX13] at hTR
              have hown : ∀ k, (Value.slice va12 X12.length vc12).ownBlock = some k → wr.heap.size ≤ k := fun k hk => (HT12.out.lt k hk).1
              have HT13 := Lib.hid hTR
              have HZ13 := Lib.hid (show wr.heap.size ≤ w13.heap.size from Nat.le_trans HZ12.out hz)
              have B13 := Lib.hid (put_below B12.out (Nat.le_trans HBT.out HZ12.out) ho1 ho2 ho3 hz hbk (fun k hk => Nat.le_trans HBT.out (hown k hk)))
              have HF13 := Lib.hid (fresh_keep HF12.out (hbk p HF12.out.cell.lt (fun e => by have := hown p e.symm; have := HPL3.out; have := HZT.out; omega)) (hbk q HF12.out.rd.lt (fun e => by have := hown q e.symm; have := HPL3.out; have := HZT.out; omega)))
              have HAR13 := Lib.hid (HAR12.out.kept (fun k hk => hbk k (HAR12.out.lt k hk).2 (HT12.out.apart HAR12.out k hk)))
              obtain ⟨va13, vc13, rfl⟩ := hTR.form
              have HRUN13 := Lib.hid hrun
              clear hrun hTR hz ho1 ho2 ho3 hbk hown hX13
              obtain ⟨X14, hX14⟩ : ∃ Z, Z = X13 ++ [bytes db] := ⟨_, rfl⟩
              have HXL14 := Lib.hid (show X14.length = X13.length + 1 from by rw [hX14]; simp)
              have HX14 := Lib.hid hX14
              obtain ⟨v14, w14, hrun, hTR, hz, ho1, ho2, ho3, hbk⟩ := trow_put db HT13.out (by have := HL12.out.1; have := HXL13.out; omega) (by have := HZ13.out; omega)
              rw [show bytes db = bytes db from rfl, ← hX14] at hTR
              have hown : ∀ k, (Value.slice va13 X13.length vc13).ownBlock = some k → wr.heap.size ≤ k := fun k hk => (HT13.out.lt k hk).1
              have HT14 := Lib.hid hTR
              have HZ14 := Lib.hid (show wr.heap.size ≤ w14.heap.size from Nat.le_trans HZ13.out hz)
              have B14 := Lib.hid (put_below B13.out (Nat.le_trans HBT.out HZ13.out) ho1 ho2 ho3 hz hbk (fun k hk => Nat.le_trans HBT.out (hown k hk)))
              have HF14 := Lib.hid (fresh_keep HF13.out (hbk p HF13.out.cell.lt (fun e => by have := hown p e.symm; have := HPL3.out; have := HZT.out; omega)) (hbk q HF13.out.rd.lt (fun e => by have := hown q e.symm; have := HPL3.out; have := HZT.out; omega)))
              have HAR14 := Lib.hid (HAR13.out.kept (fun k hk => hbk k (HAR13.out.lt k hk).2 (HT13.out.apart HAR13.out k hk)))
              obtain ⟨va14, vc14, rfl⟩ := hTR.form
              have HRUN14 := Lib.hid hrun
              clear hrun hTR hz ho1 ho2 ho3 hbk hown hX14
              obtain ⟨X15, hX15⟩ : ∃ Z, Z = X14 ++ [k_user] := ⟨_, rfl⟩
              have HXL15 := Lib.hid (show X15.length = X14.length + 1 from by rw [hX15]; simp)
              have HX15 := Lib.hid hX15
              obtain ⟨v15, w15, hrun, hTR, hz, ho1, ho2, ho3, hbk⟩ := trow_put { data := #[117, 115, 101, 114] } HT14.out (by have := HL12.out.1; have := HXL13.out; have := HXL14.out; omega) (by have := HZ14.out; omega)
              rw [show bytes { data := #[117, 115, 101, 114] } = k_user from rfl, ← hX15] at hTR
              have hown : ∀ k, (Value.slice va14 X14.length vc14).ownBlock = some k → wr.heap.size ≤ k := fun k hk => (HT14.out.lt k hk).1
              have HT15 := Lib.hid hTR
              have HZ15 := Lib.hid (show wr.heap.size ≤ w15.heap.size from Nat.le_trans HZ14.out hz)
              have B15 := Lib.hid (put_below B14.out (Nat.le_trans HBT.out HZ14.out) ho1 ho2 ho3 hz hbk (fun k hk => Nat.le_trans HBT.out (hown k hk)))
              have HF15 := Lib.hid (fresh_keep HF14.out (hbk p HF14.out.cell.lt (fun e => by have := hown p e.symm; have := HPL3.out; have := HZT.out; omega)) (hbk q HF14.out.rd.lt (fun e => by have := hown q e.symm; have := HPL3.out; have := HZT.out; omega)))
              have HAR15 := Lib.hid (HAR14.out.kept (fun k hk => hbk k (HAR14.out.lt k hk).2 (HT14.out.apart HAR14.out k hk)))
              obtain ⟨va15, vc15, rfl⟩ := hTR.form
              have HRUN15 := Lib.hid hrun
              clear hrun hTR hz ho1 ho2 ho3 hbk hown hX15
              obtain ⟨X16, hX16⟩ : ∃ Z, Z = X15 ++ [k_other] := ⟨_, rfl⟩
              have HXL16 := Lib.hid (show X16.length = X15.length + 1 from by rw [hX16]; simp)
              have HX16 := Lib.hid hX16
              obtain ⟨v16, w16, hrun, hTR, hz, ho1, ho2, ho3, hbk⟩ := trow_put { data := #[111, 116, 104, 101, 114] } HT15.out (by have := HL12.out.1; have := HXL13.out; have := HXL14.out; have := HXL15.out; omega) (by have := HZ15.out; omega)
              rw [show bytes { data := #[111, 116, 104, 101, 114] } = k_other from rfl, ← hX16] at hTR
              have hown : ∀ k, (Value.slice va15 X15.length vc15).ownBlock = some k → wr.heap.size ≤ k := fun k hk => (HT15.out.lt k hk).1
              have HT16 := Lib.hid hTR
              have HZ16 := Lib.hid (show wr.heap.size ≤ w16.heap.size from Nat.le_trans HZ15.out hz)
              have B16 := Lib.hid (put_below B15.out (Nat.le_trans HBT.out HZ15.out) ho1 ho2 ho3 hz hbk (fun k hk => Nat.le_trans HBT.out (hown k hk)))
              have HF16 := Lib.hid (fresh_keep HF15.out (hbk p HF15.out.cell.lt (fun e => by have := hown p e.symm; have := HPL3.out; have := HZT.out; omega)) (hbk q HF15.out.rd.lt (fun e => by have := hown q e.symm; have := HPL3.out; have := HZT.out; omega)))
              have HAR16 := Lib.hid (HAR15.out.kept (fun k hk => hbk k (HAR15.out.lt k hk).2 (HT15.out.apart HAR15.out k hk)))
              obtain ⟨va16, vc16, rfl⟩ := hTR.form
              have HRUN16 := Lib.hid hrun
              clear hrun hTR hz ho1 ho2 ho3 hbk hown hX16
              have HL16 := Lib.hid (show X16.length ≤ 46 ∧ X16 = pairsK T ++ [k_user] ++ [bytes ub] ++ [k_database] ++ [bytes db] ++ [k_user] ++ [k_other] from by
                refine ⟨by have := HL12.out.1; have := HXL13.out; have := HXL14.out; have := HXL15.out; have := HXL16.out; omega, by rw [HX16.out, HX15.out, HX14.out, HX13.out, HL12.out.2]⟩)
              have HA16 := Lib.hid (show (∀ t ∈ X16, t ≠ [] ∧ (0 : UInt8) ∉ t) ∧ (∀ t ∈ X16, t.length ≤ 200) from by
                have hd9 : (bytes db).length ≤ 200 := by rw [bytes_len]; omega
                refine ⟨fun t ht9 => ?_, fun t ht9 => ?_⟩
                · rw [HX16.out, HX15.out, HX14.out, HX13.out] at ht9
                  simp only [List.mem_append, List.mem_singleton] at ht9
                  rcases ht9 with (((h | rfl) | rfl) | rfl) | rfl
                  · exact HA12.out.1 t h
                  · exact ⟨by decide, by decide⟩
                  · exact ⟨HDN.out, HDF.out⟩
                  · exact ⟨by decide, by decide⟩
                  · exact ⟨by decide, by decide⟩
                · rw [HX16.out, HX15.out, HX14.out, HX13.out] at ht9
                  simp only [List.mem_append, List.mem_singleton] at ht9
                  rcases ht9 with (((h | rfl) | rfl) | rfl) | rfl
                  · exact HA12.out.2 t h
                  · decide
                  · exact hd9
                  · decide
                  · decide)
              have HSA := Lib.hid (startK_any va16 X16.length vc16 X16 w16 HT16.out.texts (room_pairs HA16.out.2 (by have := HL16.out.1; omega) (Nat.le_refl _) (by simp)))
              have HKT := Lib.hid (show KTold (({ data := #[] } : ByteArray) ++ startK X16) false [⟨115, bytes ub, bytes db, [], []⟩] (some ({ data := #[] }, true)) from by
                have h1 := start_two (T := T) HUN.out HDN.out
                rw [← HL16.out.2] at h1
                have := told_texts HA16.out.1 (by rw [HL16.out.2]; simp only [List.length_append, pairsK_length, List.length_cons, List.length_nil]; omega) HA16.out.2 (by have := HL16.out.1; omega) (by rw [h1]; rfl)
                rw [h1] at this
                exact this)
              have hsz := startK_size X16
              obtain ⟨sv, hsv⟩ : ∃ z, z = startK X16 := ⟨_, rfl⟩
              rw [← hsv] at HSA HKT hsz
              clear hsv
              go_wp2_with (at_builtin; first | (refine run_eq_walk rfl (.tmp 144) (.tmp 145) 27 rfl _ _ rfl rfl _ _ HRUN13.out ?_) | (refine run_eq_walk rfl (.tmp 147) (.tmp 149) 27 rfl _ _ rfl rfl _ _ HRUN14.out ?_) | (refine run_eq_walk rfl (.tmp 151) (.tmp 152) 27 rfl _ _ rfl rfl _ _ HRUN15.out ?_) | (refine run_eq_walk rfl (.tmp 154) (.tmp 155) 27 rfl _ _ rfl rfl _ _ HRUN16.out ?_))
              refine HSA.out.mono ?_; rintro e ws2 ⟨rfl, hb⟩
              have HFS2 := Lib.hid (HF16.out.grown hb)
              have HARS := Lib.hid (HAR16.out.grown hb)
              have BS2 := Lib.hid (B16.out.step hb B16.out.size)
              clear hb HSA HRUN13 HRUN14 HRUN15 HRUN16
              go_wp2_with fail
              refine (feed_told HFS2.out (by show 0 + _ ≤ _; omega) HKT.out).mono ?_; rintro e wz ⟨bv, vf, rfl, hE, hS, hT, hv⟩
              have BZ := Lib.hid (show Below w.heap.size w wz from BS2.out.trans (hT.below (B := w.heap.size) BS2.out.size HP.out.1 HP.out.2.1 (by simp [Value.ownBlock])))
              have HARZ := Lib.hid (HARS.out.kept (fun k hk => by
                have h9 := HARS.out.lt k hk
                have := HPL3.out; have := HZT.out; have := HWS.out
                exact hT.block k h9.2 (by omega) (by omega) (by simp [Value.ownBlock])))
              obtain ⟨ga, gca, hva, hca, _, _, hcellA⟩ := HARZ.out.read (by simp)
              injection hva with e1 e2 e3
              subst e1 e3
              obtain ⟨gb, gcb, rfl, hcb, _, _, hcellB⟩ := hE.read (by simp)
              have hA := hcellA 0 _ rfl
              have hB := hcellB 0 _ rfl
              have hub : (⟨(bytes ub).toArray⟩ : ByteArray) = ub := by simp [bytes]
              have hdb : (⟨(bytes db).toArray⟩ : ByteArray) = db := by simp [bytes]
              have m0 : wz.cell? ⟨ga, 0, none⟩ = some (.int .u8 115) := hA.1
              have m1 : wz.cell? ⟨ga, 1, none⟩ = some (.string ub) := by have := hA.2.1; rw [hub] at this; exact this
              have m2 : wz.cell? ⟨ga, 2, none⟩ = some (.string ub) := by have := hA.2.2.1; rw [hub] at this; exact this
              have n0 : wz.cell? ⟨gb, 0, none⟩ = some (.int .u8 115) := hB.1
              have n1 : wz.cell? ⟨gb, 1, none⟩ = some (.string ub) := by have := hB.2.1; rw [hub] at this; exact this
              have n2 : wz.cell? ⟨gb, 2, none⟩ = some (.string db) := by have := hB.2.2.1; rw [hdb] at this; exact this
              have hca1 : (1 : Int) ≤ ac := by simp at hca; omega
              have hcb1 : (1 : Int) ≤ gcb := by simp at hcb; omega
              clear hE hS hT hv hcellA hcellB hA hB hub hdb hca hcb e2
              go_wp2_with fail
              go_ret
              exact ⟨rfl, BZ.out⟩
set_option maxRecDepth 100000 in
theorem names_lifted (os : Os) (started : os.Started) (H : Type) (enc : TypeId × Value → H) :
    ReturnsInHanded {} Tryd.checked os 5 .any (fun w args => (Rows.frontNamesSpec.pre enc Tryd.prog Tryd.f5 Rows.frontNamesRow.domain false w args ∧ laidMetH Tryd.prog [("unicode/utf8.acceptRanges", Rows.laid_unicode_utf8_acceptRanges), ("unicode/utf8.first", Rows.laid_unicode_utf8_first)] w) ∧ sizedMet enc Tryd.prog Tryd.f5 (OpenSpec.ofChange Rows.frontNamesSpec) false w args) (Rows.frontNamesSpec.post enc Tryd.prog Tryd.f5 false true false false) := by
  refine handed_laid (C := Tryd.checked) (X := fun w _ => laidMetH Tryd.prog [("unicode/utf8.acceptRanges", Rows.laid_unicode_utf8_acceptRanges), ("unicode/utf8.first", Rows.laid_unicode_utf8_first)] w) (fun _ _ _ hh h => h.of_heap hh) own started (by kernel_rfl) Tryd.func5
    (ChangeSpec.witness_shaped (enc := enc) (C := Tryd.checked) (os := os) (X := fun w _ => laidMetH Tryd.prog [("unicode/utf8.acceptRanges", Rows.laid_unicode_utf8_acceptRanges), ("unicode/utf8.first", Rows.laid_unicode_utf8_first)] w) false (World.laidAll Tryd.prog os [("unicode/utf8.acceptRanges", Rows.laid_unicode_utf8_acceptRanges), ("unicode/utf8.first", Rows.laid_unicode_utf8_first)]) #[.slice none 0 0, .string { data := #[] }, .string { data := #[] }] 8 (World.laidAll_os _ _ _) (World.shaped_of_ZipB (by kernel_rfl) (by kernel_rfl)) (by kernel_rfl) (by kernel_rfl) (by kernel_rfl)
      (by rw [MakeChecks.laidMetH_plain _ _ _ (by kernel_rfl)]; exact laidMet_laidAll _ (by kernel_rfl) (by kernel_rfl))) ?_
  intro W base args ds gs before hval0 hW hsz0 _ _
  have hsz : (DataW.weightsEach Tryd.prog (Tryd.f5.params.toList ++ Rows.frontNamesSpec.plain.varTypes Tryd.prog) (ds ++ gs)).all (· ≤ reachBytes) = true := hsz0
  clear hsz0
  have hval : ∀ (j : Nat) t v, Tryd.f5.params[j]? = some t → args[j]? = some v → Value.okWide Tryd.prog W .any base t v := hval0
  have hW' := hW
  obtain ⟨p, q, hA0, hV, rfl, _, _⟩ := hW
  have hA : DataW.TrodAll enc Tryd.prog W 0 (fun _ => true) true Tryd.f5.params.toList args.toList ds p := hA0
  rw [Tryd.params5] at hA hval hsz
  obtain ⟨v0, v1, v2, d0, d1, d2, p0, p1, p2, rfl, rfl, rfl, h0, h1, h2⟩ := trodAll_three hA
  obtain ⟨rfl, rfl⟩ := trodVars_none hV
  obtain ⟨a0, len0, cap0, rfl⟩ := okWide_slice Tryd.underlying27 (hval 0 27 v0 rfl rfl)
  obtain ⟨fuel0, hf0⟩ := h0
  obtain ⟨T, hT0, hw1⟩ := open_textsIn (by simpa [Value.cells] using hf0)
  have hTz : ∀ t ∈ T, t.length ≤ 140737488351232 := fun t ht => of_decide_eq_true (List.all_eq_true.1 hsz _ (DataW.weights_mem_each (j := 0) (t := 27) rfl rfl _ (hw1 t ht)))
  obtain ⟨s, rfl, rfl, rfl, hl_s⟩ := Go.ChangeMaps.open_string Tryd.underlying9 (hval 1 9 v1 rfl rfl) h1
  have hz_s : s.size ≤ 140737488351232 := by have := sized_string hsz (j := 1) (t := 9) rfl rfl; rw [size_list] at this; exact this
  obtain ⟨t, rfl, rfl, rfl, hl_t⟩ := Go.ChangeMaps.open_string Tryd.underlying9 (hval 2 9 v2 rfl rfl) h2
  have hz_t : t.size ≤ 140737488351232 := by have := sized_string hsz (j := 2) (t := 9) rfl rfl; rw [size_list] at this; exact this
  refine (names_walk _ T s t W hT0 hTz hz_s hz_t).mono fun e W' ⟨he, hb⟩ => ?_
  subst he
  exact ⟨_, rfl, law_shut laidOut (by kernel_rfl) (by kernel_rfl) Tryd.underlying4 rfl hW' rfl hb⟩

theorem names_holds : Rows.FrontNamesSaid :=
  OpenClaim.holds_of_wide 5 Tryd.f5 rfl rfl rfl rfl rfl rfl rfl ⟨rfl, rfl, rfl, rfl, rfl⟩ rfl rfl rfl rfl rfl (by kernel_rfl) Tryd.func5 (by kernel_rfl)
    (of_decide_eq_true (by kernel_rfl)) (by unfold Func.isWrapper; rw [if_neg (of_decide_eq_false (by kernel_rfl))]; exact ⟨rfl, rfl⟩)
    (fun os started H enc _ => names_lifted os started H enc)

theorem names_card : Rows.FrontNamesCardSaid :=
  Claim7.holds_tied_plain_at .later [] [.data, .pinned] true _ false names_holds (fun _ h => by cases h) (by kernel_rfl) (fun _ h => by cases h) frontNames_row_tie rfl ⟨rfl, rfl⟩ (by kernel_rfl) rfl
    (fun f fn hf hfn => by
      obtain rfl : f = 5 := Option.some.inj ((show Tryd.prog.funcNamed "taxirank/taxiranklaw18.FrontNames" = some 5 by kernel_rfl).symm.trans hf) |>.symm
      obtain rfl : fn = Tryd.f5 := (Option.some.inj (Tryd.func5.symm.trans hfn)).symm
      exact ⟨by kernel_rfl, fun j t ht => by
        rw [Tryd.params5] at ht
        have hm : t ∈ [27, 9, 9] := by simpa using Array.mem_of_getElem? ht
        have hall : ([27, 9, 9].all fun u => !Tryd.prog.wantsStandIn u) = true := by kernel_rfl
        exact (show Tryd.prog.wantsStandIn t = false by simpa using List.all_eq_true.1 hall t hm)⟩)
    (by kernel_rfl)
end Go.Proofs.YtmofnkinclckoaaDoor
