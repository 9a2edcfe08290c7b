/- The document's way to compare: a form in millionths. -/
import Derived.Test.YtdlhmcogpmdonaaGreatDoorRRef
namespace Go.Proofs.YtdlhmcogpmdonaaGreatDoor
open Go.RowKit Go.Lib Go.WideShapes

/-- How far a form was read. -/
def SSt (sg : Bs) (d : Dcm) (j n : Nat) (b : Int) (m : Bool) : Prop :=
  (j < sg.length ∧ n = 0 ∧ b = -1 ∧ m = false) ∨
  (∃ k, j = sg.length + k ∧ k ≤ d.w.length ∧ n = val (d.w.take k) ∧ b = -1 ∧ m = sgB sg) ∨
  (d.dot = true ∧ ∃ q : Nat, j = sg.length + d.w.length + 1 + q ∧ q ≤ d.p.length ∧ n = val (d.w ++ d.p.take q) ∧ b = q ∧ m = sgB sg)
def Neg (l : Bs) : Prop := l = [] ∨ l = [45]
theorem SSt.start {sg : Bs} {d : Dcm} (hs : Neg sg) : SSt sg d 0 0 (-1) false := by
  rcases hs with rfl | rfl
  · exact .inr (.inl ⟨0, rfl, Nat.zero_le _, rfl, rfl, rfl⟩)
  · exact .inl ⟨by decide, rfl, rfl, rfl⟩
theorem SSt.small {sg : Bs} {d : Dcm} (hd : d.ok) {j n : Nat} {b : Int} {m : Bool} (h : SSt sg d j n b m) : n < 1000000000000000 ∧ -1 ≤ b ∧ b ≤ 6 := by
  have h9 := hd.w9; have h6 := hd.p6
  rcases h with ⟨_, h2, h3, _⟩ | ⟨k, _, h1, h2, h3, _⟩ | ⟨_, q, _, h1, h2, h3, _⟩
  · omega
  · refine ⟨?_, by omega, by omega⟩
    rw [h2]
    exact val_le15 (by rw [List.length_take]; omega) fun c hc => hd.dw c (List.mem_of_mem_take hc)
  · refine ⟨?_, by omega, by omega⟩
    rw [h2]
    exact val_le15 (by rw [List.length_append, List.length_take]; omega) fun c hc => (List.mem_append.1 hc).elim (hd.dw c) fun h => hd.dp c (List.mem_of_mem_take h)
theorem SSt.next {sg : Bs} {d : Dcm} (hs : Neg sg) (hd : d.ok) {j n : Nat} {b : Int} {m : Bool} (h : SSt sg d j n b m) (hj : j < (sg ++ d.text).length) :
    ∃ c : UInt8, (sg ++ d.text)[j]? = some c ∧ ((c = 45 ∧ SSt sg d (j + 1) n b true) ∨ (c = 46 ∧ SSt sg d (j + 1) n 0 m) ∨ (isDg c ∧ b < 0 ∧ SSt sg d (j + 1) (10 * n + (c.toNat - 48)) b m) ∨ (isDg c ∧ 0 ≤ b ∧ SSt sg d (j + 1) (10 * n + (c.toNat - 48)) (b + 1) m)) := by
  rw [List.length_append, d.text_length hd] at hj
  rcases h with ⟨h1, h2, h3, h4⟩ | ⟨k, h1, h2, h3, h4, h5⟩ | ⟨ht, q, h1, h2, h3, h4, h5⟩
  · rcases hs with rfl | rfl
    · cases h1
    · have h1 : j < 1 := h1
      obtain rfl : j = 0 := by omega
      refine ⟨45, rfl, .inl ⟨rfl, .inr (.inl ⟨0, rfl, Nat.zero_le _, h2, h3, rfl⟩)⟩⟩
  · have ha : (sg ++ d.text)[j]? = d.text[k]? := by rw [List.getElem?_append_right (by omega), show j - sg.length = k by omega]
    by_cases hk : k < d.w.length
    · have hc : d.text[k]? = some d.w[k] := by
        unfold Dcm.text; split
        · rw [List.getElem?_append_left hk, List.getElem?_eq_getElem hk]
        · rw [List.getElem?_eq_getElem hk]
      have hdg := hd.dw _ (List.getElem_mem hk)
      refine ⟨d.w[k], by rw [ha, hc], .inr (.inr (.inl ⟨hdg, by omega, .inr (.inl ⟨k + 1, by omega, hk, ?_, h4, h5⟩)⟩))⟩
      rw [List.take_succ_eq_append_getElem hk, val_snoc, h3]
    · have hk' : k = d.w.length := by omega
      have hdot : d.dot = true := by
        cases e : d.dot with
        | true => rfl
        | false => rw [if_neg (by rw [e]; decide), hd.nodot e] at hj; simp at hj; omega
      refine ⟨46, ?_, .inr (.inl ⟨rfl, .inr (.inr ⟨hdot, 0, by omega, Nat.zero_le _, ?_, by omega, h5⟩)⟩)⟩
      · rw [ha]; unfold Dcm.text; rw [if_pos hdot, List.getElem?_append_right (by omega), hk', Nat.sub_self]; rfl
      · rw [h3, hk', List.take_length, List.take_zero, List.append_nil]
  · rw [if_pos ht] at hj
    have hq : q < d.p.length := by omega
    have hdg := hd.dp _ (List.getElem_mem hq)
    refine ⟨d.p[q], ?_, .inr (.inr (.inr ⟨hdg, by omega, .inr (.inr ⟨ht, q + 1, by omega, hq, ?_, by omega, h5⟩)⟩))⟩
    · rw [List.getElem?_append_right (by omega)]
      unfold Dcm.text
      rw [if_pos ht, List.getElem?_append_right (by omega), show j - sg.length - d.w.length = q + 1 by omega, List.getElem?_cons_succ, List.getElem?_eq_getElem hq]
    · rw [List.take_succ_eq_append_getElem hq, ← List.append_assoc, val_snoc, h3]
theorem SSt.end {sg : Bs} {d : Dcm} (hd : d.ok) {j n : Nat} {b : Int} {m : Bool} (h : SSt sg d j n b m) (hj : ¬ j < (sg ++ d.text).length) :
    n = d.man ∧ max b 0 = d.p.length ∧ m = sgB sg := by
  have hs := hd.some
  rw [List.length_append, d.text_length hd] at hj
  rcases h with ⟨h1, h2, h3, h4⟩ | ⟨k, h1, h2, h3, h4, h5⟩ | ⟨ht, q, h1, h2, h3, h4, h5⟩
  · omega
  · have e : d.dot = false := by
      cases e : d.dot with
      | false => rfl
      | true => rw [if_pos e] at hj; omega
    have hp := hd.nodot e
    rw [hp, if_neg (by rw [e]; decide), List.length_nil] at hj
    refine ⟨?_, by rw [hp, h4]; rfl, h5⟩
    rw [h3, List.take_of_length_le (by omega)]; unfold Dcm.man; rw [hp, List.append_nil]
  · rw [if_pos ht] at hj
    have hq : q = d.p.length := by omega
    refine ⟨?_, by rw [h4, hq]; omega, h5⟩
    rw [h3, hq, List.take_length]; rfl

set_option maxRecDepth 100000 in
set_option maxHeartbeats 8000000 in
theorem scaled_any (s : ByteArray) (sg : Bs) (d : Dcm) (w : World) (hsg : Neg sg) (hd : d.ok) (hs : bytes s = sg ++ d.text) :
    Calls Tryz.prog 26 #[.string s] w fun e w' => e = .returned (.int .i64 (if sgB sg = true then -(d.mil : Int) else d.mil)) ∧ w = w' := by
  have hlen : s.size = (sg ++ d.text).length := by rw [← bytes_len, hs]
  have hml := hd.mil_lt
  have h6 := hd.p6
  have HM := Lib.hid (show d.mil = d.man * 10 ^ (6 - d.p.length) from rfl)
  have hsl : s.size ≤ 17 := by
    have := hd.short
    rw [hlen, List.length_append]
    rcases hsg with rfl | rfl
    · rw [List.length_nil]; omega
    · rw [List.length_singleton]; omega
  have HST := Lib.hid (SSt.start (d := d) hsg)
  have HN := Lib.hid (fun (j n : Nat) (b : Int) (m : Bool) (h : SSt sg d j n b m) (hj : j < s.size) => h.next hsg hd (by rw [← hlen]; exact hj))
  have HSM := Lib.hid (fun (j n : Nat) (b : Int) (m : Bool) (h : SSt sg d j n b m) => h.small hd)
  have HE := Lib.hid (fun (j n : Nat) (b : Int) (m : Bool) (h : SSt sg d j n b m) (hj : ¬ j < s.size) => h.end hd (by rw [← hlen]; exact hj))
  have HTX := Lib.hid (fun (k : Nat) (c : UInt8) (hc : (sg ++ d.text)[k]? = some c) => text_at hs hc)
  obtain ⟨M, hM⟩ : ∃ M, M = d.man := ⟨_, rfl⟩
  obtain ⟨q, hq⟩ : ∃ q, q = d.p.length := ⟨_, rfl⟩
  obtain ⟨X, hX⟩ : ∃ X, X = d.mil := ⟨_, rfl⟩
  obtain ⟨neg, hneg⟩ : ∃ neg, neg = sgB sg := ⟨_, rfl⟩
  rw [← hM, ← hq, ← hX] at HM
  rw [← hX] at hml ⊢
  rw [← hq] at h6
  rw [← hneg]
  have HX := Lib.hid hM; have HQ := Lib.hid hq; have HG := Lib.hid hneg
  clear hM hq hX hneg hs hlen hsg hd
  obtain ⟨Rv, hRv⟩ : ∃ Rv : Int, Rv = (if neg = true then -(X : Int) else X) := ⟨_, rfl⟩
  rw [← hRv]
  have HRV := Lib.hid hRv
  clear hRv
  go_enter Tryz.func26, Tryz.ntmps26
  go_wp2_with fail
  go_loopg [3, 4, 5, 6] s.size (fun g x y z v wr => ∃ (j n : Nat) (b : Int) (m : Bool), x = .int .i64 n ∧ y = .int .i64 b ∧ z = .bool m ∧ v = .int .i64 j ∧ j ≤ s.size ∧ g = s.size - j ∧ wr = w ∧ SSt sg d j n b m)
  case atStart => exact ⟨0, 0, -1, false, rfl, rfl, rfl, rfl, Nat.zero_le _, rfl, rfl, HST.out⟩
  case round =>
    obtain ⟨j, n, b, m, rfl, rfl, rfl, rfl, hj, hg, rfl, ho⟩ := hrel
    have HO := Lib.hid ho; have HGG := Lib.hid hg
    obtain ⟨hn, hb1, hb2⟩ := HSM.out _ _ _ _ ho
    clear ho hg
    by_cases hlt : j < s.size
    · obtain ⟨c, hc, hcs⟩ := HN.out _ _ _ _ HO.out hlt
      obtain ⟨_, hcx⟩ := HTX.out _ _ hc
      clear hc
      have hlt' : (j : Int) < s.size := by omega
      rcases hcs with ⟨rfl, h1⟩ | ⟨rfl, h1⟩ | ⟨hdg, hbn, h1⟩ | ⟨hdg, hbn, h1⟩
      · have HX1 := Lib.hid h1
        rw [show (45 : UInt8).toNat = 45 from rfl] at hcx
        clear h1
        go_wp2_with fail
        go_roundg (s.size - (j + 1))
        case measure => have := HGG.out; omega
        case rel => exact ⟨j + 1, n, b, true, rfl, rfl, rfl, by go_num, by omega, rfl, rfl, HX1.out⟩
      · have HX1 := Lib.hid h1
        rw [show (46 : UInt8).toNat = 46 from rfl] at hcx
        clear h1
        go_wp2_with fail
        go_roundg (s.size - (j + 1))
        case measure => have := HGG.out; omega
        case rel => exact ⟨j + 1, n, 0, m, rfl, rfl, rfl, by go_num, by omega, rfl, rfl, HX1.out⟩
      · unfold isDg at hdg
        obtain ⟨cn, hcn⟩ : ∃ cn, cn = c.toNat := ⟨_, rfl⟩
        rw [← hcn] at hcx hdg h1
        have HX1 := Lib.hid h1
        have n1 : ((cn : Int) == 45) = false := by rw [beq_eq_false_iff_ne]; omega
        have n2 : ((cn : Int) == 46) = false := by rw [beq_eq_false_iff_ne]; omega
        have n3 : (48 : Int) ≤ cn := by omega
        have n4 : (cn : Int) ≤ 57 := by omega
        clear h1 hcn hdg
        go_wp2_with fail
        go_roundg (s.size - (j + 1))
        case measure => have := HGG.out; omega
        case rel => exact ⟨j + 1, _, b, m, by go_num, rfl, rfl, by go_num, by omega, rfl, rfl, HX1.out⟩
      · unfold isDg at hdg
        obtain ⟨cn, hcn⟩ : ∃ cn, cn = c.toNat := ⟨_, rfl⟩
        rw [← hcn] at hcx hdg h1
        have HX1 := Lib.hid h1
        have n1 : ((cn : Int) == 45) = false := by rw [beq_eq_false_iff_ne]; omega
        have n2 : ((cn : Int) == 46) = false := by rw [beq_eq_false_iff_ne]; omega
        have n3 : (48 : Int) ≤ cn := by omega
        have n4 : (cn : Int) ≤ 57 := by omega
        clear h1 hcn hdg
        go_wp2_with fail
        go_roundg (s.size - (j + 1))
        case measure => have := HGG.out; omega
        case rel => exact ⟨j + 1, _, b + 1, m, by go_num, rfl, rfl, by go_num, by omega, rfl, rfl, HX1.out⟩
    · obtain ⟨h1, h2, h3⟩ := HE.out _ _ _ _ HO.out hlt
      obtain rfl : j = s.size := by omega
      have h1' : n = M := by rw [h1, HX.out]
      have h2' : max b 0 = (q : Int) := by rw [h2, HQ.out]
      have h3' : m = neg := by rw [h3, HG.out]
      subst h1' h3'
      clear h1 h2 h3 hlt hj
      have HB2 := Lib.hid h2'
      clear h2'
      clear HST HN HSM HE HTX HX HQ HG HO HGG
      have hmx : max b 0 = (q : Int) := HB2.out
      go_wp2_with fail
      clear hmx HB2 hb1 hb2
      go_loopg [3, 4] (6 - q) (fun g x y wr' => ∃ (Y t : Nat), x = .int .i64 Y ∧ y = .int .i64 t ∧ t ≤ 6 ∧ g = 6 - t ∧ wr' = wr ∧ Y * 10 ^ (6 - t) = X ∧ Y < 1000000000000000)
      case atStart => exact ⟨n, q, rfl, rfl, h6, rfl, rfl, HM.out.symm, hn⟩
      case round =>
        obtain ⟨Y, t, rfl, rfl, ht, hg, rfl, hY, hYl⟩ := hrel
        have HY := Lib.hid hY; have HGG := Lib.hid hg
        clear hY hg
        by_cases h : t < 6
        · have ht' : (t : Int) < 6 := by omega
          have HY2 := Lib.hid (show (10 * Y) * 10 ^ (6 - (t + 1)) = X by rw [← HY.out, show 6 - t = (6 - (t + 1)) + 1 by omega, Nat.pow_succ]; rw [Nat.mul_comm 10 Y, Nat.mul_assoc, Nat.mul_comm 10])
          have hb : 10 * Y < 1000000000000000 := Nat.lt_of_le_of_lt (Nat.le_mul_of_pos_right (10 * Y) (Nat.pow_pos (n := 6 - (t + 1)) (show 0 < 10 by decide))) (by rw [HY2.out]; exact hml)
          clear h ht
          go_wp2_with fail
          go_roundg (6 - (t + 1))
          case measure => have := HGG.out; omega
          case rel => exact ⟨10 * Y, t + 1, by go_num, by go_num, by omega, rfl, rfl, HY2.out, hb⟩
        · obtain rfl : t = 6 := by omega
          have hYX : Y = X := by have := HY.out; rw [Nat.sub_self, Nat.pow_zero, Nat.mul_one] at this; exact this
          subst hYX
          clear h ht
          cases m with
          | false =>
            go_wp2_with fail
            go_ret
            exact ⟨by rw [HRV.out]; rfl, rfl⟩
          | true =>
            go_wp2_with fail
            go_ret
            exact ⟨by rw [HRV.out]; rfl, rfl⟩

/-- A form that is a number, in millionths. -/
theorem scaled_fin (s : Bool) (X : Nat) (w : World) (h : X < 1000000000000000) :
    Calls Tryz.prog 26 #[.string ⟨(canonB (.fin s X)).toArray⟩] w fun e w' => e = .returned (.int .i64 (Num.fin s X).key) ∧ w = w' := by
  have := scaled_any ⟨(canonB (.fin s X)).toArray⟩ (if s = true then [45] else []) (cdm X) w (by cases s; exact .inl rfl; exact .inr rfl) (cdm_ok h) (by rw [bytes_mk]; show milText s X = _; rw [milText_eq, ← cdm_text])
  rw [cdm_mil] at this
  cases s <;> exact this
end Go.Proofs.YtdlhmcogpmdonaaGreatDoor
