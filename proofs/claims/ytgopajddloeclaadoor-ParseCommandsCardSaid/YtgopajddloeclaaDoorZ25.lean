/- Contracts and mathematics: Runs, Statements, Split. -/
import Derived.Test.YtgopajddloeclaaDoorZ23
import Derived.RangeFuncBox
import Derived.Maps.AppendAt
namespace Go.Proofs.YtgopajddloeclaaDoor
open Go.RowKit Go.Lib Go.WideShapes Go.Shelf

attribute [local go_sem] Oper.semAt_some

theorem stV_eq {T : List Tok} {u d j : Nat} {q0 q1 : Tok} (hl : T.length = j) (h0 : T[0]? = some q0) (h1 : T[j - 1]? = some q1) : stV ⟨some ⟨u, 0, none⟩, d, T⟩ = .agg #[.slice (some ⟨u, 0, none⟩) j d, .int .i64 q0.lo, .int .i64 q1.hi] := by
  unfold stV St.lo St.hi
  rw [List.head?_eq_getElem?, List.getLast?_eq_getElem?, hl, h0, h1]
  rfl

theorem TokIn.dropIn {w : World} {g off : Nat} {l : List Tok} (h : TokIn w (some ⟨g, off, none⟩) l) (k : Nat) : TokIn w (some ⟨g, off + k * 4, none⟩) (l.drop k) := by
  rcases h with rfl | ⟨g', off', hp, hr, ht⟩
  · exact .inl (by simp)
  · cases hp
    exact .inr ⟨_, _, rfl, hr, ht.drop k⟩

set_option maxRecDepth 100000 in
set_option maxHeartbeats 2000000 in
theorem seq_runs (n : Nat) (hn : 1 ≤ n) (bx : Nat) (p : Option Addr) (l : List Tok) (m c : Nat) (w : World) (hlm : l.length = m) (hm : m ≤ 2000) (hbx : bx < w.heap.size) (hc : w.cell? ⟨bx, 0, none⟩ = some (.slice p m c)) (hT : TokIn w p l) (hmc : m ≤ c) (hcm : c ≤ 9223372036854775807) :
    Runs Fence.wide n Tryd.prog 63 #[.pointer (some ⟨bx, 0, none⟩)] (fun x => #[stV x]) KeepsToks (Handed l) 2001 w := by
  intro L J W hW hJ hY h0
  have HC := Lib.hid ((hW.cell (p := ⟨bx, 0, none⟩) hbx).trans hc)
  have HT := Lib.hid (hT.kept (KeepsToks.below hW))
  have hcx := HC.out
  clear hc hT
  refine callsIn_of_wp Tryd.func63 rfl trivial ?_ rfl
  simp only [Tryd.ntmps63, List.size_toArray, List.length_cons, List.length_nil, Nat.reduceAdd, Nat.reduceSub, Array.replicate_succ, Array.replicate_zero, List.push_toArray, List.append_toArray, List.nil_append, List.cons_append]
  gi_wp2
  gi_loopw [3] (fun rest wr => ∃ (k : Nat) (xs : List St) (p' : Option Addr) (c' : Nat), rest = .slice p' (m - k) c' ∧ k ≤ m ∧ xs.length ≤ k ∧ xs.map St.toks ++ splits (l.drop k) = splits l ∧ TokIn wr p' (l.drop k) ∧ (∀ x ∈ xs, StIn wr x) ∧ J xs wr ∧ W.heap.size ≤ wr.heap.size ∧ m - k ≤ c' ∧ c' ≤ 9223372036854775807) (fun rest _ => lenOf rest)
  case atStart => exact ⟨0, [], p, c, rfl, Nat.zero_le _, Nat.zero_le _, rfl, HT.out, (fun x h => by cases h), h0, Nat.le_refl _, hmc, hcm⟩
  case round =>
    obtain ⟨k, xs, p', c', rfl, hk, hxk, hsp, hTT, hxs, hJs, hz, hrc, hcm'⟩ := hrel
    have HTT := Lib.hid hTT; have HXS := Lib.hid hxs; have HJS := Lib.hid hJs; have HSP := Lib.hid hsp
    clear hTT hxs hJs hsp
    by_cases hlt : k < m
    · have hlt' : (0 : Int) < ((m - k : Nat) : Int) := by omega
      obtain ⟨r, hr⟩ : ∃ r, r = m - k := ⟨_, rfl⟩
      have hrl : (l.drop k).length = r := by rw [List.length_drop, hlm, hr]
      rw [← hr] at hrc hlt' ⊢
      have hr0 : 0 < r := by omega
      have hr2 : r ≤ 2000 := by omega
      obtain ⟨R, hRR⟩ : ∃ R, R = l.drop k := ⟨_, rfl⟩
      rw [← hRR] at hrl HTT HSP
      rcases HTT.out with hnil | ⟨g, off, rfl, hrow, hto⟩
      · rw [hnil] at hrl; simp at hrl; omega
      have HIX := Lib.hid (index_any (some ⟨g, off, none⟩) R r c' wr hrl hto hr2)
      have HRW := Lib.hid hrow; have HTO := Lib.hid hto; have HRL := Lib.hid hrl; have HRK := Lib.hid hr; have HRR := Lib.hid hRR
      have hjl : semiAt R ≤ r := by rw [← hrl]; exact semiAt_le R
      clear hrow hto hrl hRR hr
      gi_wp2
      refine ⟨trivial, (callsIn_wide.2 HIX.out).mono ?_⟩; rintro e w1 ⟨rfl, hb1⟩
      obtain ⟨j, hj⟩ : ∃ j, j = semiAt R := ⟨_, rfl⟩
      rw [← hj] at hjl ⊢
      have HJ := Lib.hid hj
      clear hj
      have HB1 := Lib.hid hb1
      have HJ1 := Lib.hid (hJ xs wr w1 none HJS.out (grow_below hb1 none) (fun r e => by cases e))
      clear hb1
      clear HIX
      by_cases hj0 : j = 0
      · subst hj0
        rw [if_pos hr0]
        have hr1 : (1 : Int) ≤ r := by omega
        have hrc' : (r : Int) ≤ c' := by omega
        have hmin : min (1 : Int) r = 1 := by omega
        have HSP1 := Lib.hid (show xs.map St.toks ++ splits (l.drop (k + 1)) = splits l by
          rw [← HSP.out, splits_step (R := R) (by intro e; have := HRL.out; rw [e] at this; simp at this; omega), ← HJ.out, if_pos rfl, HRL.out, show min (0 + 1) r = 1 by omega, HRR.out, List.drop_drop, List.nil_append])
        have HTI := Lib.hid (HTT.out.kept (KeepsToks.below HB1.out))
        have hz1 := HB1.out.size
        gi_wp2
        refine ⟨trivial, ?_⟩
        by_cases hc1 : c' = 1
        · have hc2 : r = 1 := by omega
          subst hc1 hc2
          gi_wp2
          refine ⟨fun _ h => (by cases h), ?_⟩
          gi_wp2
          go_roundw
          case rel => exact ⟨k + 1, xs, some ⟨g, off, none⟩, 0, by rw [show m - (k + 1) = 0 by have := HRK.out; omega], by have := HRK.out; omega, by omega, HSP1.out, .inl (List.drop_eq_nil_of_le (by have := HRK.out; omega)), fun x hx => (HXS.out x hx).kept (KeepsToks.below HB1.out), HJ1.out, by omega, by have := HRK.out; omega, by omega⟩
          case measure => simp [lenOf]
        · have hc2 : (1 : Int) < c' := by omega
          gi_wp2
          refine ⟨fun _ h => (by cases h), ?_⟩
          gi_wp2
          go_roundw
          case rel => exact ⟨k + 1, xs, some ⟨g, off + 1 * 4, none⟩, c' - 1, by rw [show m - (k + 1) = r - 1 by have := HRK.out; omega], by have := HRK.out; omega, by omega, HSP1.out, by rw [← List.drop_drop, ← HRR.out]; exact HTI.out.dropIn 1, fun x hx => (HXS.out x hx).kept (KeepsToks.below HB1.out), HJ1.out, by omega, by have := HRK.out; omega, by omega⟩
          case measure => simp [lenOf]; omega
      · have hj1 : 0 < j := by omega
        have HTI := Lib.hid (HTT.out.kept (KeepsToks.below HB1.out))
        have hz1 := HB1.out.size
        obtain ⟨T, hTd⟩ : ∃ T, T = R.take j := ⟨_, rfl⟩
        have hTl : T.length = j := by rw [hTd, List.length_take, HRL.out]; omega
        obtain ⟨q0, hq0⟩ : ∃ q, T[0]? = some q := ⟨_, List.getElem?_eq_getElem (by omega)⟩
        obtain ⟨q1, hq1⟩ : ∃ q, T[j - 1]? = some q := ⟨_, List.getElem?_eq_getElem (by omega)⟩
        have hgz : g < wr.heap.size := by obtain ⟨row, kk, hh⟩ := HRW.out; exact (Array.getElem?_eq_some_iff.1 hh).1
        have HST := Lib.hid (statement_any g off T j c' q0 q1 w1 hTl (by rw [hTd]; exact (HTO.out.step HB1.out).take j) hj1 (by omega) hq0 hq1 (by omega))
        have HYY := Lib.hid (fun u d V (hV : J xs V) => by have := hY xs ⟨some ⟨u, 0, none⟩, d, T⟩ V hV (by have := HRK.out; omega); rw [stV_eq hTl hq0 hq1] at this; exact this)
        have HSPJ := Lib.hid (show xs.map St.toks ++ [T] ++ splits (l.drop (k + min (j + 1) r)) = splits l by
          rw [← HSP.out, splits_step (R := R) (by intro e; have := HRL.out; rw [e] at this; simp at this; omega), ← HJ.out, if_neg hj0, HRL.out, HRR.out, List.drop_drop, List.append_assoc, hTd, HRR.out])
        have HTL := Lib.hid hTl
        clear hTd hTl hq0 hq1
        by_cases hjr : j < r
        · rw [if_pos hjr]
          have hjr' : (j : Int) < r := by omega
          have hrc' : (r : Int) ≤ c' := by omega
          have hj9 : ¬ (j : Int) < 0 := by omega
          gi_wp2
          refine ⟨trivial, (callsIn_wide.2 HST.out).mono ?_⟩; rintro e w2 ⟨u, d, rfl, hro, hA, hb2, hd⟩; have HDD := Lib.hid hd; clear hd
          have HJ2 := Lib.hid (hJ xs w1 w2 none HJ1.out (grow_below hb2 none) (fun r e => by cases e))
          have HRO := Lib.hid hro; have HA := Lib.hid hA; have HB2 := Lib.hid hb2
          clear hro hA hb2
          obtain ⟨fn, tmps, assign, body, hy, hR⟩ := HYY.out u d w2 HJ2.out
          gi_wp2
          refine hR.mono ?_; rintro e w3 ⟨rfl, hJ3, hK3⟩
          have HJ3 := Lib.hid hJ3; have HK3 := Lib.hid hK3
          have hz2 := HB2.out.size
          have hz3 := hK3.1
          have HXN := Lib.hid (show ∀ x ∈ xs ++ [(⟨some ⟨u, 0, none⟩, d, T⟩ : St)], StIn w3 x from fun x hx => by
            rcases List.mem_append.1 hx with hx | hx
            · exact (((HXS.out x hx).kept (KeepsToks.below HB1.out)).kept (KeepsToks.below HB2.out)).kept HK3.out
            · rw [List.mem_singleton] at hx
              subst hx
              exact StIn.kept ⟨.inr ⟨u, 0, rfl, HRO.out, HA.out.off⟩, ⟨u, rfl⟩, by rw [HTL.out]; exact HDD.out⟩ HK3.out)
          have HTI3 := Lib.hid ((HTI.out.kept (KeepsToks.below HB2.out)).kept HK3.out)
          clear hJ3 hK3
          have hmin : min ((j : Int) + 1) r = j + 1 := by omega
          have HSPK := Lib.hid (show (xs ++ [(⟨some ⟨u, 0, none⟩, d, T⟩ : St)]).map St.toks ++ splits (l.drop (k + (j + 1))) = splits l by have := HSPJ.out; rw [show min (j + 1) r = j + 1 by omega] at this; rw [List.map_append]; exact this)
          by_cases hc1 : c' = j + 1
          · have hc2 : r = j + 1 := by omega
            subst hc1 hc2
            gi_wp2
            go_roundw
            case rel => exact ⟨k + (j + 1), xs ++ [⟨some ⟨u, 0, none⟩, d, T⟩], some ⟨g, off, none⟩, 0, by rw [show m - (k + (j + 1)) = 0 by have := HRK.out; omega], by have := HRK.out; omega, by simp; omega, HSPK.out, .inl (List.drop_eq_nil_of_le (by have := HRK.out; omega)), HXN.out, HJ3.out, by omega, by have := HRK.out; omega, by omega⟩
            case measure => simp [lenOf]
          · have hc2 : (j : Int) + 1 < c' := by omega
            have hjr2 : (j : Int) + 1 ≤ r := by omega
            gi_wp2
            go_roundw
            case rel => exact ⟨k + (j + 1), xs ++ [⟨some ⟨u, 0, none⟩, d, T⟩], some ⟨g, off + (j + 1) * 4, none⟩, c' - (j + 1), by rw [show m - (k + (j + 1)) = r - (j + 1) by have := HRK.out; omega], by have := HRK.out; omega, by simp; omega, HSPK.out, by rw [← List.drop_drop, ← HRR.out]; exact HTI3.out.dropIn (j + 1), HXN.out, HJ3.out, by omega, by have := HRK.out; omega, by omega⟩
            case measure => simp [lenOf]; omega
        · obtain rfl : j = r := by omega
          rw [if_neg hjr]
          have hrc' : (j : Int) ≤ c' := by omega
          have hj8 : (0 : Int) < j := by omega
          gi_wp2
          refine ⟨trivial, (callsIn_wide.2 HST.out).mono ?_⟩; rintro e w2 ⟨u, d, rfl, hro, hA, hb2, hd⟩; have HDD := Lib.hid hd; clear hd
          have HJ2 := Lib.hid (hJ xs w1 w2 none HJ1.out (grow_below hb2 none) (fun r e => by cases e))
          have HRO := Lib.hid hro; have HA := Lib.hid hA; have HB2 := Lib.hid hb2
          clear hro hA hb2
          obtain ⟨fn, tmps, assign, body, hy, hR⟩ := HYY.out u d w2 HJ2.out
          gi_wp2
          refine hR.mono ?_; rintro e w3 ⟨rfl, hJ3, hK3⟩
          have HJ3 := Lib.hid hJ3; have HK3 := Lib.hid hK3
          have hz2 := HB2.out.size
          have hz3 := hK3.1
          have HXN := Lib.hid (show ∀ x ∈ xs ++ [(⟨some ⟨u, 0, none⟩, d, T⟩ : St)], StIn w3 x from fun x hx => by
            rcases List.mem_append.1 hx with hx | hx
            · exact (((HXS.out x hx).kept (KeepsToks.below HB1.out)).kept (KeepsToks.below HB2.out)).kept HK3.out
            · rw [List.mem_singleton] at hx
              subst hx
              exact StIn.kept ⟨.inr ⟨u, 0, rfl, HRO.out, HA.out.off⟩, ⟨u, rfl⟩, by rw [HTL.out]; exact HDD.out⟩ HK3.out)
          have HTI3 := Lib.hid ((HTI.out.kept (KeepsToks.below HB2.out)).kept HK3.out)
          clear hJ3 hK3
          have hmin : min ((j : Int) + 1) j = j := by omega
          have HSPK := Lib.hid (show (xs ++ [(⟨some ⟨u, 0, none⟩, d, T⟩ : St)]).map St.toks ++ splits (l.drop (k + j)) = splits l by have := HSPJ.out; rw [show min (j + 1) j = j by omega] at this; rw [List.map_append]; exact this)
          by_cases hc1 : c' = j
          · subst hc1
            gi_wp2
            go_roundw
            case rel => exact ⟨k + c', xs ++ [⟨some ⟨u, 0, none⟩, d, T⟩], some ⟨g, off, none⟩, 0, by rw [show m - (k + c') = 0 by have := HRK.out; omega], by have := HRK.out; omega, by simp; omega, HSPK.out, .inl (List.drop_eq_nil_of_le (by have := HRK.out; omega)), HXN.out, HJ3.out, by omega, by have := HRK.out; omega, by omega⟩
            case measure => simp [lenOf]; omega
          · have hc2 : (j : Int) < c' := by omega
            gi_wp2
            go_roundw
            case rel => exact ⟨k + j, xs ++ [⟨some ⟨u, 0, none⟩, d, T⟩], some ⟨g, off + j * 4, none⟩, c' - j, by rw [show m - (k + j) = 0 by have := HRK.out; omega], by have := HRK.out; omega, by simp; omega, HSPK.out, .inl (List.drop_eq_nil_of_le (by have := HRK.out; omega)), HXN.out, HJ3.out, by omega, by have := HRK.out; omega, by omega⟩
            case measure => simp [lenOf]; omega
    · obtain rfl : k = m := by omega
      have HD := Lib.hid (show Handed l xs wr from ⟨by have := HSP.out; rw [List.drop_eq_nil_of_le (by omega)] at this; simpa [splits, splitT] using this, HXS.out⟩)
      gi_wp2
      go_end0
      exact ⟨⟨_, rfl⟩, xs, HD.out, HJS.out⟩
end Go.Proofs.YtgopajddloeclaaDoor

namespace Go.Proofs.YtgopajddloeclaaDoor
open Go.RowKit Go.Lib Go.WideShapes

theorem statements_any (p : Option Addr) (m c : Nat) (w : World) :
    Calls Tryd.prog 38 #[.slice p m c] w fun e w' => e = .returned (.func (.func 63) #[] #[.pointer (some ⟨w.heap.size, 0, none⟩)]) ∧ w' = w.alloc (.cells #[.slice p m c] 22) := by
  go_enter Tryd.func38, Tryd.ntmps38
  go_wp2_with fail
  go_ret
  exact ⟨rfl, rfl⟩

/-- Words appear in the tokens of a text: what Split tells, as mathematics. -/
def parted (l : Bs) : Option (List (List Tok)) := if 2000 < l.length then none else (tokens l).map splits
end Go.Proofs.YtgopajddloeclaaDoor

namespace Go.Proofs.YtgopajddloeclaaDoor
open Go.RowKit Go.Lib Go.WideShapes Go.Shelf

attribute [local go_sem] Oper.semAt_some

/-- Scan, with what a row of tokens is afterwards. -/
theorem scan_toks (s : ByteArray) (m : Int) (w : World) (hs : s.size ≤ 2000) (hm : w.cell? ⟨2, 0, none⟩ = some (.int .i64 m)) :
    Calls Tryd.prog 17 #[.string s] w fun e w' => Below w.heap.size w w' ∧ ((tokens (bytes s) = none ∧ ∃ p c : _, e = .returned (.tuple #[.slice p 0 c, .int .i64 2])) ∨ ∃ (L : List Tok) (n : Nat) (p : _) (c : Nat), tokens (bytes s) = some L ∧ L.length = n ∧ n ≤ 2000 ∧ n ≤ c ∧ c ≤ 9223372036854775807 ∧ e = .returned (.tuple #[.slice p n c, .int .i64 0]) ∧ TokIn w' p L) := by
  refine (scan_small s m w hs hm).mono ?_
  rintro e w' ⟨hB, h | ⟨L, p, c, hT, rfl, hL, hO⟩⟩
  · exact ⟨hB, .inl h⟩
  · have hL2 : L.length ≤ 2000 := by have := (tokens_facts hT).1; rw [bytes_len] at this; omega
    by_cases h0 : 0 < L.length
    · obtain ⟨g, cap, hv, hn, hcap, hwg, hg, hc⟩ := tok_cells hO h0
      cases hv
      refine ⟨hB, .inr ⟨L, L.length, _, _, hT, rfl, hL2, hn, hcap, rfl, .inr ⟨g, 0, rfl, ?_, ?_⟩⟩⟩
      · rcases hO.2 with ⟨hv, _⟩ | ⟨g', cap', cur, hv, _, hg', _⟩
        · cases hv
        · cases hv; exact ⟨_, _, hg'⟩
      · refine .inr ⟨g, 0, rfl, hg, fun i q hq => ?_⟩
        obtain ⟨h0, h1, h2, h3⟩ := tokC_at L i q hq
        rw [Nat.zero_add]
        exact ⟨hc _ _ h0, hc _ _ h1, hc _ _ h2, hc _ _ h3⟩
    · obtain rfl : L = [] := List.length_eq_zero_iff.1 (by omega)
      have hc : 0 ≤ c ∧ c ≤ 9223372036854775807 := by
        rcases hO.2 with ⟨hv, _⟩ | ⟨g', cap', cur, hv, _, hg', _, hc, _⟩
        · cases hv; omega
        · cases hv; unfold maxLen at hc; omega
      exact ⟨hB, .inr ⟨[], 0, p, c, hT, rfl, by omega, hc.1, hc.2, rfl, .inl rfl⟩⟩

def stC (x : St) : List Value := [.slice x.u x.toks.length x.d, .int .i64 x.lo, .int .i64 x.hi]
def stCs : List St → List Value
  | [] => []
  | x :: r => stC x ++ stCs r
theorem stCs_snoc (l : List St) (x : St) : stCs (l ++ [x]) = stCs l ++ stC x := by
  induction l with
  | nil => simp [stCs]
  | cons y l ih => simp [stCs, ih]

/-- The cells of a row of statements. -/
def StAt (w : World) (p : Option Addr) (l : List St) : Prop := ∀ (i : Nat) (x : St), l[i]? = some x → ∃ g, p = some ⟨g, 0, none⟩ ∧ g < w.heap.size ∧ w.cell? ⟨g, i * 3, none⟩ = some (.slice x.u x.toks.length x.d) ∧ w.cell? ⟨g, i * 3 + 1, none⟩ = some (.int .i64 x.lo) ∧ w.cell? ⟨g, i * 3 + 2, none⟩ = some (.int .i64 x.hi)

theorem StAt.step {w w' : World} {p : Option Addr} {l : List St} (h : StAt w p l) (hb : Below w.heap.size w w') : StAt w' p l := by
  intro i q hq
  obtain ⟨g, rfl, hg, h0, h1, h2⟩ := h i q hq
  exact ⟨g, rfl, Nat.lt_of_lt_of_le hg hb.size, (hb.cell hg).trans h0, (hb.cell hg).trans h1, (hb.cell hg).trans h2⟩

theorem stCs_at : ∀ (l : List St) (i : Nat) (x : St), l[i]? = some x → (stCs l)[i * 3]? = some (.slice x.u x.toks.length x.d) ∧ (stCs l)[i * 3 + 1]? = some (.int .i64 x.lo) ∧ (stCs l)[i * 3 + 2]? = some (.int .i64 x.hi) := by
  intro l
  induction l with
  | nil => intro i q h; cases h
  | cons t l ih =>
    intro i q h
    cases i with
    | zero => cases h; exact ⟨rfl, rfl, rfl⟩
    | succ i =>
      obtain ⟨h0, h1, h2⟩ := ih i q h
      have e : ∀ k, (stCs (t :: l))[(i + 1) * 3 + k]? = (stCs l)[i * 3 + k]? := by
        intro k
        rw [show (i + 1) * 3 + k = (i * 3 + k) + 3 by omega]
        rfl
      exact ⟨(e 0).trans h0, (e 1).trans h1, (e 2).trans h2⟩

theorem stAt_own {w : World} {B n : Nat} {v : Value} {l : List St} (h : w.ownsRow B 37 3 v n (stCs l)) (hl : l.length = n) : ∃ p c, v = .slice p n c ∧ n ≤ c ∧ StAt w p l := by
  have hr := h
  rcases h.2 with ⟨rfl, rfl⟩ | ⟨g, cap, cur, rfl, hb, hg, hn, hc, _⟩
  · exact ⟨none, 0, rfl, Nat.le_refl _, fun i x hx => by rw [List.length_eq_zero_iff.1 hl] at hx; cases hx⟩
  · refine ⟨_, cap, rfl, hn, fun i x hx => ⟨g, rfl, (Array.getElem?_eq_some_iff.1 hg).1, ?_⟩⟩
    have hcell := hr.cells (g := g) rfl
    obtain ⟨h0, h1, h2⟩ := stCs_at l i x hx
    have f0 := hcell _ _ h0; have f1 := hcell _ _ h1; have f2 := hcell _ _ h2
    rw [Go.WideShapes.add_plain, Nat.zero_add] at f0 f1 f2
    exact ⟨f0, f1, f2⟩

/-- What Split leaves. -/
def Parted (s : ByteArray) (w : World) (e : Ending) (w' : World) : Prop := Below w.heap.size w w' ∧ ((tokens (bytes s) = none ∧ e = .returned (.tuple #[.slice none 0 0, .int .i64 2])) ∨ ∃ (T : List Tok) (xs : List St) (n : Nat) (p : Option Addr) (c : Nat), tokens (bytes s) = some T ∧ xs.map St.toks = splits T ∧ xs.length = n ∧ n ≤ 2001 ∧ n ≤ c ∧ e = .returned (.tuple #[.slice p n c, .int .i64 0]) ∧ StAt w' p xs ∧ ∀ x ∈ xs, StIn w' x)

theorem splitT_length : ∀ (f : Nat) (l : List Tok), (splitT f l).length ≤ l.length := by
  intro f
  induction f with
  | zero => intro l; exact Nat.zero_le _
  | succ f ih =>
    intro l
    rw [splitT]
    by_cases h : l = []
    · rw [if_pos h]; exact Nat.zero_le _
    · rw [if_neg h, List.length_append]
      have h0 : 0 < l.length := List.length_pos_iff.2 h
      have := ih (l.drop (min (semiAt l + 1) l.length))
      rw [List.length_drop] at this
      by_cases h1 : semiAt l = 0
      · rw [if_pos h1]; simp; omega
      · rw [if_neg h1]; simp; omega
theorem splits_length (l : List Tok) : (splits l).length ≤ l.length := splitT_length _ l

theorem info_st : (Tryd.prog.info? 37).map (fun i => (i.zero, i.size, i.bytes)) = some (some (.agg #[.slice none 0 0, .int .i64 0, .int .i64 0]), 3, 40) := by kernel_rfl

theorem KeepsToks.putObj {W : World} {l : Nat} {o : Obj} (o' : Obj) (hl : W.heap[l]? = some o) (ho : o.isCells = false) : KeepsToks W (W.putObj l o') := by
  refine ⟨by simp, fun g row k hg => ?_⟩
  by_cases e : g = l
  · subst e; rw [hg] at hl; cases hl; cases ho
  · exact World.putObj_heap_other e

/-- A row of statements has grown. -/
theorem KeepsToks.grown {V W : World} {B n : Nat} {v : Value} {xs : List Value} (hr : V.ownsRow B 37 3 v n xs) (hg : V.grownBy W v.ownBlock) : KeepsToks V W := by
  refine ⟨hg.size, fun g row k h => hg.block g (Array.getElem?_eq_some_iff.1 h).1 fun e => ?_⟩
  rcases hr.2 with ⟨rfl, _⟩ | ⟨g', cap, cur, rfl, _, hg', _⟩
  · simp [Value.ownBlock] at e
  · obtain rfl : g = g' := by simpa [Value.ownBlock] using e
    rw [h] at hg'; simp at hg'

theorem KeepsToks.boxed {V : World} {B : Nat} {v : Value} (h : Boxed V B 54 v) (v' : Value) : KeepsToks V (V.setCell ⟨B, 0, none⟩ v') := by
  refine ⟨(KeepsWalks.setCell V _ v').size, fun g row k hg => Below.heap_setCell _ _ _ g fun e => ?_⟩
  have e : g = B := e
  subst e
  rw [show V.heap[g]? = _ from h] at hg; simp at hg

theorem KeepsToks.alloc (V : World) (o : Obj) : KeepsToks V (V.alloc o) := KeepsToks.below ((Below.refl _ V).alloc (Nat.le_refl _) o)

theorem handed_own (B : Nat) (L : List Tok) : OwnFrom B (Handed L) := by
  rintro xs A C row ⟨hm, hx⟩ hg hr
  refine ⟨hm, fun x h => (hx x h).kept ⟨hg.size, fun g r k hgg => hg.block g (Array.getElem?_eq_some_iff.1 hgg).1 fun e => ?_⟩⟩
  obtain ⟨_, o, ho, hc⟩ := hr g e.symm
  rw [hgg] at ho; cases ho; cases hc

set_option maxRecDepth 100000 in
set_option maxHeartbeats 2000000 in
theorem split_any (s : ByteArray) (m : Int) (w : World) (hs : s.size ≤ 2000) (hm : w.cell? ⟨2, 0, none⟩ = some (.int .i64 m)) :
    Calls Tryd.prog 23 #[.string s] w (Parted s w) := by
  have HS := Lib.hid (scan_toks s m w hs hm)
  obtain ⟨i0, hi, hz0, hz1, hz2⟩ := info_parts info_st
  clear hm hs
  refine (callsIn_wide (n := 4)).1 ?_
  refine callsIn_of_wp_marks Tryd.func23 rfl trivial ?_ rfl
  simp only [Tryd.ntmps23, List.size_toArray, List.length_cons, List.length_nil, Nat.reduceAdd, Nat.reduceSub, Array.replicate_succ, Array.replicate_zero, List.push_toArray, List.append_toArray, List.nil_append, List.cons_append]
  gi_wp2
  refine ⟨trivial, (callsIn_wide.2 HS.out).mono ?_⟩; rintro e w1 ⟨hb1, hcs⟩
  have HB1 := Lib.hid hb1
  clear hb1 HS
  rcases hcs with ⟨hT, p, c, rfl⟩ | ⟨L, n, p, c, hT, hL, hn, hnc, hc, rfl, hto⟩
  · have HT := Lib.hid hT
    clear hT hi hz0 hz1 hz2
    gi_wp2
    exact ⟨_, results_tmp2 rfl _ _ _, HB1.out, .inl ⟨HT.out, rfl⟩⟩
  · have HT := Lib.hid hT; have HL := Lib.hid hL; have HTO := Lib.hid hto
    clear hT hL hto
    gi_wp2
    refine ⟨trivial, (callsIn_wide.2 (statements_any _ _ _ _)).mono ?_⟩; rintro e w2 ⟨rfl, rfl⟩
    have bO := Boxed.new w1 54 (.slice none 0 0)
    have bN := Boxed.new (w1.alloc (.cells #[.slice none 0 0] 54)) 22 (.slice p n c)
    rw [World.size_alloc] at bN
    have hB0 : Below w1.heap.size w1 ((w1.alloc (.cells #[.slice none 0 0] 54)).alloc (.cells #[.slice p n c] 22)) := ((Below.refl _ w1).alloc (Nat.le_refl _) _).alloc (by simp) _
    have bO := bO.alloc (.cells #[.slice p n c] 22)
    have hz : ((w1.alloc (.cells #[.slice none 0 0] 54)).alloc (.cells #[.slice p n c] 22)).heap.size = w1.heap.size + 2 := by simp
    generalize (w1.alloc (.cells #[.slice none 0 0] 54)).alloc (.cells #[.slice p n c] 22) = W0 at bO bN hB0 hz ⊢
    have HBO := Lib.hid bO; have HBN := Lib.hid bN; have HB0 := Lib.hid hB0; have HZ := Lib.hid hz
    clear bO bN hB0 hz
    gi_wp2
    refine range_runs rfl (by omega) (gf := 63) (lb := #[.pointer (some ⟨w1.heap.size + 1, 0, none⟩)]) rfl trivial (enters_of Tryd.func63 (by kernel_rfl) rfl)
      (seq_runs 3 (by omega) (w1.heap.size + 1) p L n c W0 HL.out hn (by rw [HZ.out]; omega) HBN.out.cell (HTO.out.kept (KeepsToks.below HB0.out)) hnc hc) (Below.refl _ _)
      KeepsToks.trans (fun W l o o' _ hl ho _ => KeepsToks.putObj o' hl ho) (fun _ => rfl)
      (fun pre W => (∃ v, Boxed W w1.heap.size 54 v ∧ W.ownsRow w1.heap.size 37 3 v pre.length (stCs pre) ∧ True) ∧ Below w1.heap.size w1 W)
      (OwnFrom.and (Own.from (holdsRow_own w1.heap.size w1.heap.size 54 37 3 (fun pre => List.length pre) (fun pre => stCs pre) (fun _ _ => True)) _) (ownFrom_below (Nat.le_refl _) (by rw [HZ.out]; omega)))
      ⟨⟨_, HBO.out, World.ownsRow_nil _ _ _ _, trivial⟩, HB0.out⟩ ?round (handed_own _ _) ?done
    case round =>
      rintro l pre x V hl ⟨⟨v, hv, hrow, -⟩, hB⟩ hlt
      have HV := Lib.hid hv; have HROW := Lib.hid hrow; have HB := Lib.hid hB
      clear hv hrow hB
      unfold stV
      gi_wp2
      refine ⟨(Below.refl _ V).alloc (Nat.le_refl _) _, KeepsToks.alloc _ _, ?_⟩
      rintro V2 ⟨o, o', ho, hoc, hV2⟩
      have HV2 := Lib.hid hV2
      have hgp : (V.alloc (.cells #[.slice x.u x.toks.length x.d, .int .i64 x.lo, .int .i64 x.hi] 37)).grownBy V2 (some l) := by rw [hV2]; exact grownBy_putObj' _ l o'
      have hno : ∀ r, some l = some r → ∃ o : Obj, (V.alloc (.cells #[.slice x.u x.toks.length x.d, .int .i64 x.lo, .int .i64 x.hi] 37)).heap[r]? = some o ∧ o.isCells = false := fun r e => by cases e; exact ⟨o, ho, hoc⟩
      have hb2 : Boxed V2 w1.heap.size 54 v := (HV.out.alloc _).kept hgp fun e => by cases e; rw [show _ = _ from HV.out.alloc _] at ho; cases ho; cases hoc
      have hr2 : V2.ownsRow w1.heap.size 37 3 v pre.length (stCs pre) := by rw [hV2]; exact ownsRow_putObj (HROW.out.alloc _) o' ho hoc
      have c0 : V2.cell? ⟨V.heap.size, 0, none⟩ = some (.slice x.u x.toks.length x.d) := cell_kept (World.cell?_alloc_new _ _ _ _) hgp hno
      have c1 : V2.cell? ⟨V.heap.size, 1, none⟩ = some (.int .i64 x.lo) := cell_kept (World.cell?_alloc_new _ _ _ _) hgp hno
      have c2 : V2.cell? ⟨V.heap.size, 2, none⟩ = some (.int .i64 x.hi) := cell_kept (World.cell?_alloc_new _ _ _ _) hgp hno
      have hB2 : Below w1.heap.size w1 V2 := (HB.out.alloc HB.out.size _).grown hgp (Nat.le_trans HB.out.size (by simp)) (fun k e => by cases e; have := HZ.out; omega)
      have hcb := hb2.cell
      have HB2 := Lib.hid hb2; have HR2 := Lib.hid hr2; have HBE := Lib.hid hB2
      clear hV2 hgp hno hb2 hr2 hB2 ho hoc HV HROW HB HV2
      gi_wp2_with (gi_at_builtin; refine wpListIn_append_own _ rfl _ _ 54 rfl w1.heap.size 37 i0 (.agg #[.slice none 0 0, .int .i64 0, .int .i64 0]) 3 40 Tryd.underlying54 hi hz0 hz1 hz2 rfl (by decide) _ _ _ rfl (HR2.out.alloc _) ⟨V2.heap.size, 0, none⟩ 1 1 (stC x) rfl rfl (fun a u h => by rw [Go.WideShapes.add_plain, Nat.zero_add, ← h]; exact (World.cell?_alloc_new V2 _ _ a).trans (by simp [stC])) (by intro u hu; simp [stC] at hu; rcases hu with rfl | rfl | rfl <;> rfl) (by unfold maxLen; omega) (by omega) (by have := HBE.out.size; simp; omega) ?_; intro v' w3 hown' hgrow _; obtain ⟨g', cap', rfl⟩ := ownsRow_succ hown'; obtain ⟨hv1, hv2, hr2, hk2, hb2⟩ := HB2.out.appended (by decide) HR2.out HBE.out.size (Nat.le_refl _) hown' hgrow; have hc1 := hv1.cell; have hf1 := hv1.frozen)
      have hk1 : KeepsToks V2 w3 := (KeepsToks.alloc V2 _).trans (KeepsToks.grown (HR2.out.alloc _) hgrow)
      exact ⟨hk2.from _, hk1.trans (KeepsToks.boxed hv1 _), ⟨_, hv2, by rw [List.length_append, stCs_snoc]; exact hr2, trivial⟩, HBE.out.trans hb2⟩
    case done =>
      rintro xs W hS ⟨⟨v, hv, hrow, -⟩, hB⟩ hK
      have hc0 := hv.cell
      gi_wp2
      refine ⟨by simp, .inl ⟨_, _, rfl, run_takeDeferred hK, ?_⟩⟩
      obtain ⟨p', c', rfl, hn', hst⟩ := stAt_own hrow rfl
      refine ⟨_, results_tmp2 rfl _ _ _, ?_⟩
      have hK0 : KeepsToks W (W.putObj W0.heap.size (.deferred none)) := KeepsToks.putObj _ hK rfl
      have hBW : Below w1.heap.size W (W.putObj W0.heap.size (.deferred none)) := (Below.refl _ W).grown (grownBy_putObj' _ _ _) (Nat.le_trans hB.size (Nat.le_refl _)) (fun k e => by cases e; have := HZ.out; omega)
      refine ⟨HB1.out.trans ((hB.trans hBW).mono HB1.out.size), .inr ⟨L, xs, xs.length, p', c', HT.out, hS.1, rfl, ?_, hn', rfl, fun i x hx => ?_, fun x hx => (hS.2 x hx).kept hK0⟩⟩
      · have := splits_length L
        have h2 := congrArg List.length hS.1
        rw [List.length_map] at h2
        have := HL.out
        omega
      · obtain ⟨g, e, hg, h0, h1, h2⟩ := hst i x hx
        have hno : ∀ r, some W0.heap.size = some r → ∃ o : Obj, W.heap[r]? = some o ∧ o.isCells = false := fun r e => by cases e; exact ⟨_, hK, rfl⟩
        exact ⟨g, e, Nat.lt_of_lt_of_le hg hBW.size, cell_kept h0 (grownBy_putObj' _ _ _) hno, cell_kept h1 (grownBy_putObj' _ _ _) hno, cell_kept h2 (grownBy_putObj' _ _ _) hno⟩
end Go.Proofs.YtgopajddloeclaaDoor
