/- The iterator over statements: its contract. -/
import Derived.Test.YtckimeikiakfcaaDoorSeq
namespace Go.Proofs.YtckimeikiakfcaaDoor
open Go.RowKit Go.Lib Go.WideShapes Go.Shelf

attribute [local go_sem] Oper.semAt_some

theorem stV_eq {T : List Tok} {u d j : Nat} {q0 q1 : Tok} (hl : T.length = j) (h0 : T[0]? = some q0) (h1 : T[j - 1]? = some q1) : stV ⟨some ⟨u, 0, none⟩, d, T⟩ = .agg #[.slice (some ⟨u, 0, none⟩) j d, .int .i64 q0.lo, .int .i64 q1.hi] := by
  unfold stV St.lo St.hi
  rw [List.head?_eq_getElem?, List.getLast?_eq_getElem?, hl, h0, h1]
  rfl

theorem TokIn.dropIn {w : World} {g off : Nat} {l : List Tok} (h : TokIn w (some ⟨g, off, none⟩) l) (k : Nat) : TokIn w (some ⟨g, off + k * 4, none⟩) (l.drop k) := by
  rcases h with rfl | ⟨g', off', hp, hr, ht⟩
  · exact .inl (by simp)
  · cases hp
    exact .inr ⟨_, _, rfl, hr, ht.drop k⟩

set_option maxRecDepth 100000 in
set_option maxHeartbeats 2000000 in
theorem seq_runs (n : Nat) (hn : 1 ≤ n) (bx : Nat) (p : Option Addr) (l : List Tok) (m c : Nat) (w : World) (hlm : l.length = m) (hm : m ≤ 2000) (hbx : bx < w.heap.size) (hc : w.cell? ⟨bx, 0, none⟩ = some (.slice p m c)) (hT : TokIn w p l) (hmc : m ≤ c) (hcm : c ≤ 9223372036854775807) :
    Runs Fence.wide n Tryd.prog 30 #[.pointer (some ⟨bx, 0, none⟩)] (fun x => #[stV x]) KeepsToks (Handed l) 2001 w := by
  intro L J W hW hJ hY h0
  have HC := Lib.hid ((hW.cell (p := ⟨bx, 0, none⟩) hbx).trans hc)
  have HT := Lib.hid (hT.kept (KeepsToks.below hW))
  have hcx := HC.out
  clear hc hT
  refine callsIn_of_wp Tryd.func30 rfl trivial ?_ rfl
  simp only [Tryd.ntmps30, List.size_toArray, List.length_cons, List.length_nil, Nat.reduceAdd, Nat.reduceSub, Array.replicate_succ, Array.replicate_zero, List.push_toArray, List.append_toArray, List.nil_append, List.cons_append]
  gi_wp2
  gi_loopw [3] (fun rest wr => ∃ (k : Nat) (xs : List St) (p' : Option Addr) (c' : Nat), rest = .slice p' (m - k) c' ∧ k ≤ m ∧ xs.length ≤ k ∧ xs.map St.toks ++ splits (l.drop k) = splits l ∧ TokIn wr p' (l.drop k) ∧ (∀ x ∈ xs, StIn wr x) ∧ J xs wr ∧ W.heap.size ≤ wr.heap.size ∧ m - k ≤ c' ∧ c' ≤ 9223372036854775807) (fun rest _ => lenOf rest)
  case atStart => exact ⟨0, [], p, c, rfl, Nat.zero_le _, Nat.zero_le _, rfl, HT.out, (fun x h => by cases h), h0, Nat.le_refl _, hmc, hcm⟩
  case round =>
    obtain ⟨k, xs, p', c', rfl, hk, hxk, hsp, hTT, hxs, hJs, hz, hrc, hcm'⟩ := hrel
    have HTT := Lib.hid hTT; have HXS := Lib.hid hxs; have HJS := Lib.hid hJs; have HSP := Lib.hid hsp
    clear hTT hxs hJs hsp
    by_cases hlt : k < m
    · have hlt' : (0 : Int) < ((m - k : Nat) : Int) := by omega
      obtain ⟨r, hr⟩ : ∃ r, r = m - k := ⟨_, rfl⟩
      have hrl : (l.drop k).length = r := by rw [List.length_drop, hlm, hr]
      rw [← hr] at hrc hlt' ⊢
      have hr0 : 0 < r := by omega
      have hr2 : r ≤ 2000 := by omega
      obtain ⟨R, hRR⟩ : ∃ R, R = l.drop k := ⟨_, rfl⟩
      rw [← hRR] at hrl HTT HSP
      rcases HTT.out with hnil | ⟨g, off, rfl, hrow, hto⟩
      · rw [hnil] at hrl; simp at hrl; omega
      have HIX := Lib.hid (index_any (some ⟨g, off, none⟩) R r c' wr hrl hto hr2)
      have HRW := Lib.hid hrow; have HTO := Lib.hid hto; have HRL := Lib.hid hrl; have HRK := Lib.hid hr; have HRR := Lib.hid hRR
      have hjl : semiAt R ≤ r := by rw [← hrl]; exact semiAt_le R
      clear hrow hto hrl hRR hr
      gi_wp2
      refine ⟨trivial, (callsIn_wide.2 HIX.out).mono ?_⟩; rintro e w1 ⟨rfl, hb1⟩
      obtain ⟨j, hj⟩ : ∃ j, j = semiAt R := ⟨_, rfl⟩
      rw [← hj] at hjl ⊢
      have HJ := Lib.hid hj
      clear hj
      have HB1 := Lib.hid hb1
      have HJ1 := Lib.hid (hJ xs wr w1 none HJS.out (grow_below hb1 none) (fun r e => by cases e))
      clear hb1
      clear HIX
      by_cases hj0 : j = 0
      · subst hj0
        rw [if_pos hr0]
        have hr1 : (1 : Int) ≤ r := by omega
        have hrc' : (r : Int) ≤ c' := by omega
        have hmin : min (1 : Int) r = 1 := by omega
        have HSP1 := Lib.hid (show xs.map St.toks ++ splits (l.drop (k + 1)) = splits l by
          rw [← HSP.out, splits_step (R := R) (by intro e; have := HRL.out; rw [e] at this; simp at this; omega), ← HJ.out, if_pos rfl, HRL.out, show min (0 + 1) r = 1 by omega, HRR.out, List.drop_drop, List.nil_append])
        have HTI := Lib.hid (HTT.out.kept (KeepsToks.below HB1.out))
        have hz1 := HB1.out.size
        gi_wp2
        refine ⟨trivial, ?_⟩
        by_cases hc1 : c' = 1
        · have hc2 : r = 1 := by omega
          subst hc1 hc2
          gi_wp2
          refine ⟨fun _ h => (by cases h), ?_⟩
          gi_wp2
          go_roundw
          case rel => exact ⟨k + 1, xs, some ⟨g, off, none⟩, 0, by rw [show m - (k + 1) = 0 by have := HRK.out; omega], by have := HRK.out; omega, by omega, HSP1.out, .inl (List.drop_eq_nil_of_le (by have := HRK.out; omega)), fun x hx => (HXS.out x hx).kept (KeepsToks.below HB1.out), HJ1.out, by omega, by have := HRK.out; omega, by omega⟩
          case measure => simp [lenOf]
        · have hc2 : (1 : Int) < c' := by omega
          gi_wp2
          refine ⟨fun _ h => (by cases h), ?_⟩
          gi_wp2
          go_roundw
          case rel => exact ⟨k + 1, xs, some ⟨g, off + 1 * 4, none⟩, c' - 1, by rw [show m - (k + 1) = r - 1 by have := HRK.out; omega], by have := HRK.out; omega, by omega, HSP1.out, by rw [← List.drop_drop, ← HRR.out]; exact HTI.out.dropIn 1, fun x hx => (HXS.out x hx).kept (KeepsToks.below HB1.out), HJ1.out, by omega, by have := HRK.out; omega, by omega⟩
          case measure => simp [lenOf]; omega
      · have hj1 : 0 < j := by omega
        have HTI := Lib.hid (HTT.out.kept (KeepsToks.below HB1.out))
        have hz1 := HB1.out.size
        obtain ⟨T, hTd⟩ : ∃ T, T = R.take j := ⟨_, rfl⟩
        have hTl : T.length = j := by rw [hTd, List.length_take, HRL.out]; omega
        obtain ⟨q0, hq0⟩ : ∃ q, T[0]? = some q := ⟨_, List.getElem?_eq_getElem (by omega)⟩
        obtain ⟨q1, hq1⟩ : ∃ q, T[j - 1]? = some q := ⟨_, List.getElem?_eq_getElem (by omega)⟩
        have hgz : g < wr.heap.size := by obtain ⟨row, kk, hh⟩ := HRW.out; exact (Array.getElem?_eq_some_iff.1 hh).1
        have HST := Lib.hid (statement_any g off T j c' q0 q1 w1 hTl (by rw [hTd]; exact (HTO.out.step HB1.out).take j) hj1 (by omega) hq0 hq1 (by omega))
        have HYY := Lib.hid (fun u d V (hV : J xs V) => by have := hY xs ⟨some ⟨u, 0, none⟩, d, T⟩ V hV (by have := HRK.out; omega); rw [stV_eq hTl hq0 hq1] at this; exact this)
        have HSPJ := Lib.hid (show xs.map St.toks ++ [T] ++ splits (l.drop (k + min (j + 1) r)) = splits l by
          rw [← HSP.out, splits_step (R := R) (by intro e; have := HRL.out; rw [e] at this; simp at this; omega), ← HJ.out, if_neg hj0, HRL.out, HRR.out, List.drop_drop, List.append_assoc, hTd, HRR.out])
        have HTL := Lib.hid hTl
        clear hTd hTl hq0 hq1
        by_cases hjr : j < r
        · rw [if_pos hjr]
          have hjr' : (j : Int) < r := by omega
          have hrc' : (r : Int) ≤ c' := by omega
          have hj9 : ¬ (j : Int) < 0 := by omega
          gi_wp2
          refine ⟨trivial, (callsIn_wide.2 HST.out).mono ?_⟩; rintro e w2 ⟨u, d, rfl, hro, hA, hb2⟩
          have HJ2 := Lib.hid (hJ xs w1 w2 none HJ1.out (grow_below hb2 none) (fun r e => by cases e))
          have HRO := Lib.hid hro; have HA := Lib.hid hA; have HB2 := Lib.hid hb2
          clear hro hA hb2
          obtain ⟨fn, tmps, assign, body, hy, hR⟩ := HYY.out u d w2 HJ2.out
          gi_wp2
          refine hR.mono ?_; rintro e w3 ⟨rfl, hJ3, hK3⟩
          have HJ3 := Lib.hid hJ3; have HK3 := Lib.hid hK3
          have hz2 := HB2.out.size
          have hz3 := hK3.1
          have HXN := Lib.hid (show ∀ x ∈ xs ++ [(⟨some ⟨u, 0, none⟩, d, T⟩ : St)], StIn w3 x from fun x hx => by
            rcases List.mem_append.1 hx with hx | hx
            · exact (((HXS.out x hx).kept (KeepsToks.below HB1.out)).kept (KeepsToks.below HB2.out)).kept HK3.out
            · rw [List.mem_singleton] at hx
              subst hx
              exact StIn.kept ⟨.inr ⟨u, 0, rfl, HRO.out, HA.out.off⟩, u, rfl⟩ HK3.out)
          have HTI3 := Lib.hid ((HTI.out.kept (KeepsToks.below HB2.out)).kept HK3.out)
          clear hJ3 hK3
          have hmin : min ((j : Int) + 1) r = j + 1 := by omega
          have HSPK := Lib.hid (show (xs ++ [(⟨some ⟨u, 0, none⟩, d, T⟩ : St)]).map St.toks ++ splits (l.drop (k + (j + 1))) = splits l by have := HSPJ.out; rw [show min (j + 1) r = j + 1 by omega] at this; rw [List.map_append]; exact this)
          by_cases hc1 : c' = j + 1
          · have hc2 : r = j + 1 := by omega
            subst hc1 hc2
            gi_wp2
            go_roundw
            case rel => exact ⟨k + (j + 1), xs ++ [⟨some ⟨u, 0, none⟩, d, T⟩], some ⟨g, off, none⟩, 0, by rw [show m - (k + (j + 1)) = 0 by have := HRK.out; omega], by have := HRK.out; omega, by simp; omega, HSPK.out, .inl (List.drop_eq_nil_of_le (by have := HRK.out; omega)), HXN.out, HJ3.out, by omega, by have := HRK.out; omega, by omega⟩
            case measure => simp [lenOf]
          · have hc2 : (j : Int) + 1 < c' := by omega
            have hjr2 : (j : Int) + 1 ≤ r := by omega
            gi_wp2
            go_roundw
            case rel => exact ⟨k + (j + 1), xs ++ [⟨some ⟨u, 0, none⟩, d, T⟩], some ⟨g, off + (j + 1) * 4, none⟩, c' - (j + 1), by rw [show m - (k + (j + 1)) = r - (j + 1) by have := HRK.out; omega], by have := HRK.out; omega, by simp; omega, HSPK.out, by rw [← List.drop_drop, ← HRR.out]; exact HTI3.out.dropIn (j + 1), HXN.out, HJ3.out, by omega, by have := HRK.out; omega, by omega⟩
            case measure => simp [lenOf]; omega
        · obtain rfl : j = r := by omega
          rw [if_neg hjr]
          have hrc' : (j : Int) ≤ c' := by omega
          have hj8 : (0 : Int) < j := by omega
          gi_wp2
          refine ⟨trivial, (callsIn_wide.2 HST.out).mono ?_⟩; rintro e w2 ⟨u, d, rfl, hro, hA, hb2⟩
          have HJ2 := Lib.hid (hJ xs w1 w2 none HJ1.out (grow_below hb2 none) (fun r e => by cases e))
          have HRO := Lib.hid hro; have HA := Lib.hid hA; have HB2 := Lib.hid hb2
          clear hro hA hb2
          obtain ⟨fn, tmps, assign, body, hy, hR⟩ := HYY.out u d w2 HJ2.out
          gi_wp2
          refine hR.mono ?_; rintro e w3 ⟨rfl, hJ3, hK3⟩
          have HJ3 := Lib.hid hJ3; have HK3 := Lib.hid hK3
          have hz2 := HB2.out.size
          have hz3 := hK3.1
          have HXN := Lib.hid (show ∀ x ∈ xs ++ [(⟨some ⟨u, 0, none⟩, d, T⟩ : St)], StIn w3 x from fun x hx => by
            rcases List.mem_append.1 hx with hx | hx
            · exact (((HXS.out x hx).kept (KeepsToks.below HB1.out)).kept (KeepsToks.below HB2.out)).kept HK3.out
            · rw [List.mem_singleton] at hx
              subst hx
              exact StIn.kept ⟨.inr ⟨u, 0, rfl, HRO.out, HA.out.off⟩, u, rfl⟩ HK3.out)
          have HTI3 := Lib.hid ((HTI.out.kept (KeepsToks.below HB2.out)).kept HK3.out)
          clear hJ3 hK3
          have hmin : min ((j : Int) + 1) j = j := by omega
          have HSPK := Lib.hid (show (xs ++ [(⟨some ⟨u, 0, none⟩, d, T⟩ : St)]).map St.toks ++ splits (l.drop (k + j)) = splits l by have := HSPJ.out; rw [show min (j + 1) j = j by omega] at this; rw [List.map_append]; exact this)
          by_cases hc1 : c' = j
          · subst hc1
            gi_wp2
            go_roundw
            case rel => exact ⟨k + c', xs ++ [⟨some ⟨u, 0, none⟩, d, T⟩], some ⟨g, off, none⟩, 0, by rw [show m - (k + c') = 0 by have := HRK.out; omega], by have := HRK.out; omega, by simp; omega, HSPK.out, .inl (List.drop_eq_nil_of_le (by have := HRK.out; omega)), HXN.out, HJ3.out, by omega, by have := HRK.out; omega, by omega⟩
            case measure => simp [lenOf]; omega
          · have hc2 : (j : Int) < c' := by omega
            gi_wp2
            go_roundw
            case rel => exact ⟨k + j, xs ++ [⟨some ⟨u, 0, none⟩, d, T⟩], some ⟨g, off + j * 4, none⟩, c' - j, by rw [show m - (k + j) = 0 by have := HRK.out; omega], by have := HRK.out; omega, by simp; omega, HSPK.out, .inl (List.drop_eq_nil_of_le (by have := HRK.out; omega)), HXN.out, HJ3.out, by omega, by have := HRK.out; omega, by omega⟩
            case measure => simp [lenOf]; omega
    · obtain rfl : k = m := by omega
      have HD := Lib.hid (show Handed l xs wr from ⟨by have := HSP.out; rw [List.drop_eq_nil_of_le (by omega)] at this; simpa [splits, splitT] using this, HXS.out⟩)
      gi_wp2
      go_end0
      exact ⟨⟨_, rfl⟩, xs, HD.out, HJS.out⟩
end Go.Proofs.YtckimeikiakfcaaDoor
