/- Contracts and mathematics: PBarred, PCard, PBegins, PRows. -/
import Derived.Test.YtgopajddloeclaaDoorZ11
import Derived.Deep.LoopGhost
import Derived.ChangeKeysEq
import Derived.Deep.MidRow
import Derived.Test.YtgopajddloeclaaDoorZ1
import Derived.BigQuiet
import Derived.WalkSmall
import Derived.Deep.QuietTactic
namespace Go.Proofs.YtgopajddloeclaaDoor
open Go.RowKit Go.Lib Go.WideShapes

/-- The program's row of barred words. -/
def BarredAt (w : World) : Prop := ∀ (i : Nat) (x : Bs), barredL[i]? = some x → w.cell? ⟨0, i, none⟩ = some (.string ⟨x.toArray⟩)
theorem BarredAt.lt {w : World} (h : BarredAt w) : 0 < w.heap.size := World.block_lt_of_cell? w ⟨0, 0, none⟩ (h 0 _ rfl)
theorem BarredAt.step {w w' : World} (h : BarredAt w) (hb : Below w.heap.size w w') : BarredAt w' := fun i x hx => (hb.cell (p := ⟨0, i, none⟩) h.lt).trans (h i x hx)
theorem barred_step (l : Bs) (k : Nat) (x : Bs) (h : barredL[k]? = some x) : (barredL.drop k).any (fun y => y == l) = ((x == l) || (barredL.drop (k + 1)).any (fun y => y == l)) := by
  rw [List.drop_eq_getElem_cons (List.getElem?_eq_some_iff.1 h).1, List.any_cons, (List.getElem?_eq_some_iff.1 h).2]
theorem index_plain {P : Program} {t e : TypeId} {n : Nat} (cs : Array Value) (k : Nat) (v : Value) (w : World) (hu : P.underlying t = some (.array n e)) (hi : (P.info? e).isSome = true) (hc : P.cellsOf e = 1) (he : P.plainKey e = true) (hk : k < n) (hx : cs[k]? = some v) :
    (Instr.index t (.agg cs) (.int .i64 k)).run P w = .ok v w := by
  obtain ⟨i, hi⟩ := Option.isSome_iff_exists.1 hi
  have h := run_part_plain (P := P) w he hx
  simp [part, go_sem] at h
  simp [Instr.index, run_underlying hu, asIntOf, hk, run_sizeOf w hi, hc, go_sem]
  exact h
def barredA : Array Value := (barredL.map (fun x => (.string ⟨x.toArray⟩ : Value))).toArray
theorem barredA_get (k : Nat) (x : Bs) (h : barredL[k]? = some x) : barredA[k]? = some (.string ⟨x.toArray⟩) := by
  unfold barredA
  simp [h]
theorem barred_index (k : Nat) (x : Bs) (h : barredL[k]? = some x) (w : World) : (Instr.index 92 (.agg barredA) (.int .i64 k)).run Tryd.prog w = .ok (.string ⟨x.toArray⟩) w :=
  index_plain barredA k _ w Tryd.underlying92 (by kernel_rfl) (by kernel_rfl) (by kernel_rfl) (show k < 20 from (List.getElem?_eq_some_iff.1 h).1) (barredA_get k x h)
theorem barred_range (w : World) (h : BarredAt w) : w.rangeAt 0 0 (barredL.map (fun x => (.string ⟨x.toArray⟩ : Value))) := by
  intro j v hv
  rw [List.getElem?_map] at hv
  cases hx : barredL[j]? with
  | none => rw [hx] at hv; cases hv
  | some x => rw [hx] at hv; cases hv; rw [Nat.zero_add]; exact h j x hx
theorem barred_info : (Tryd.prog.info? 92).map (·.size) = some (barredL.map (fun x => (.string ⟨x.toArray⟩ : Value))).length := by kernel_rfl

set_option maxRecDepth 100000 in
set_option maxHeartbeats 4000000 in
theorem barred_any (s : ByteArray) (w : World) (hT : BarredAt w) :
    Calls Tryd.prog 27 #[.string s] w fun e w' => e = .returned (.bool (barredB (bytes s))) ∧ w = w' := by
  obtain ⟨R, hR⟩ : ∃ R, R = barredB (bytes s) := ⟨_, rfl⟩
  rw [← hR]
  have HR := Lib.hid (show R = (barredL.drop 0).any (fun y => y == bytes s) from hR)
  have HBI := Lib.hid (fun k x h w => barred_index k x h w)
  have HRG := Lib.hid (barred_range w hT)
  have HIN := Lib.hid barred_info
  unfold barredA at HBI
  generalize barredL.map (fun x => (.string ⟨x.toArray⟩ : Value)) = L at HBI HRG HIN
  clear hR hT
  go_enter Tryd.func27, Tryd.ntmps27
  go_wp2_with (refine wpList_load_mid rfl 92 _ rfl 0 0 rfl L _ HRG.out Tryd.underlying92 rfl HIN.out ?_)
  go_loopg [6] 20 (fun g v wr => ∃ k : Nat, v = .int .i64 k ∧ k ≤ 20 ∧ g = 20 - k ∧ wr = w ∧ R = (barredL.drop k).any (fun y => y == bytes s))
  case atStart => exact ⟨0, rfl, Nat.zero_le _, rfl, rfl, HR.out⟩
  case round =>
    obtain ⟨k, rfl, hk, hg, rfl, ho⟩ := hrel
    have HO := Lib.hid ho; have HG := Lib.hid hg
    clear ho hg
    by_cases hlt : k < 20
    · obtain ⟨x, hx⟩ : ∃ x, barredL[k]? = some x := ⟨_, List.getElem?_eq_getElem (by show k < 20; exact hlt)⟩
      have hI := HBI.out k x hx wr
      have hlt' : (k : Int) < 20 := by omega
      have HS := Lib.hid (barred_step (bytes s) k x hx)
      clear hx
      cases hb : (x == bytes s) with
      | true =>
        have HT := Lib.hid (show R = true by rw [HO.out, HS.out, hb]; rfl)
        have hb2 : (x == s.toList) = true := by rw [Lib.toList_data]; exact hb
        clear hb
        go_wp2_with fail
        go_ret
        exact ⟨by rw [HT.out]; rfl, rfl⟩
      | false =>
        have HN := Lib.hid (show R = (barredL.drop (k + 1)).any (fun y => y == bytes s) by rw [HO.out, HS.out, hb]; rfl)
        have hb2 : (x == s.toList) = false := by rw [Lib.toList_data]; exact hb
        clear hb
        go_wp2_with fail
        go_roundg (20 - (k + 1))
        case measure => have := HG.out; omega
        case rel => exact ⟨k + 1, by go_num, by omega, rfl, rfl, HN.out⟩
    · obtain rfl : k = 20 := by omega
      have HF := Lib.hid (show R = false from HO.out)
      go_wp2_with fail
      go_ret
      exact ⟨by rw [HF.out]; rfl, rfl⟩
end Go.Proofs.YtgopajddloeclaaDoor

namespace Go.Proofs.YtgopajddloeclaaDoor
open Go.RowKit Go.Lib Go.WideShapes Go.ChangeShapes Go.ChangeAt Go.Joins

/-- The barred words, out of what the rows list. -/
theorem barred_of_one {W : World} (h : laidMetH Tryd.prog [("taxirank/parse.barred", Rows.laid_taxirank_parse_barred)] W) : BarredAt W := by
  rw [MakeChecks.laidMetH_plain _ _ _ (by kernel_rfl)] at h
  obtain ⟨ps, ⟨g0, t0, cs0, f0, p0, q0, hg0, ht0, hv0, hd0, _, _⟩, _, _⟩ := h
  obtain rfl := Option.some.inj ((show Tryd.prog.globalNamed "taxirank/parse.barred" = some 0 by kernel_rfl).symm.trans hg0)
  obtain rfl := Option.some.inj ((show (Tryd.prog.globals[0]?).map (·.type) = some 92 by kernel_rfl).symm.trans ht0)
  obtain ⟨xs, m1, rfl, hx1, hlen, hn3, hel⟩ := DataW.trod_array Tryd.underlying92 hd0
  have c9 : Tryd.prog.cellsOf 9 = 1 := by kernel_rfl
  intro i x hx
  have hi : i < 20 := (List.getElem?_eq_some_iff.1 hx).1
  have hE := hel i hi
  rw [c9, Nat.mul_one, List.getElem?_eq_getElem (by omega)] at hE
  obtain ⟨z, e1, e2, _⟩ := DataW.trod_string Tryd.underlying9 hE
  have e3 : barredL.map (fun x => (DataW.lit (.string x) : DataW Unit)) = xs.map (·.1) := DataW.agg.inj (Prod.mk.inj hx1).1
  have e4 := congrArg (·[i]?) e3
  simp only [List.getElem?_map, hx, List.getElem?_eq_getElem (by omega : i < xs.length), Option.map_some, e2, Option.some.injEq, DataW.lit.injEq, Lit.string.injEq] at e4
  have hz : z = ⟨x.toArray⟩ := by rw [e4]
  rw [World.var?_cell hg0 hv0 i, ← hz]
  have h0 : ((cs0.toList.drop i).take 1)[0]? = some (.string z) := by rw [e1]; rfl
  simpa using h0
theorem barred_of_three {W : World} (h : laidMetH Tryd.prog [("unicode/utf8.acceptRanges", Rows.laid_unicode_utf8_acceptRanges), ("taxirank/parse.barred", Rows.laid_taxirank_parse_barred), ("unicode/utf8.first", Rows.laid_unicode_utf8_first)] W) : BarredAt W := by
  rw [MakeChecks.laidMetH_plain _ _ _ (by kernel_rfl)] at h
  obtain ⟨ps, ⟨g0, t0, cs0, f0, p0, q0, hg0, ht0, hv0, hd0, ⟨g1, t1, cs1, f1, p1, q1, hg1, ht1, hv1, hd1, _, _⟩, _⟩, _, _⟩ := h
  obtain rfl := Option.some.inj ((show Tryd.prog.globalNamed "taxirank/parse.barred" = some 0 by kernel_rfl).symm.trans hg1)
  obtain rfl := Option.some.inj ((show (Tryd.prog.globals[0]?).map (·.type) = some 92 by kernel_rfl).symm.trans ht1)
  obtain ⟨xs, m1, rfl, hx1, hlen, hn3, hel⟩ := DataW.trod_array Tryd.underlying92 hd1
  have c9 : Tryd.prog.cellsOf 9 = 1 := by kernel_rfl
  intro i x hx
  have hi : i < 20 := (List.getElem?_eq_some_iff.1 hx).1
  have hE := hel i hi
  rw [c9, Nat.mul_one, List.getElem?_eq_getElem (by omega)] at hE
  obtain ⟨z, e1, e2, _⟩ := DataW.trod_string Tryd.underlying9 hE
  have e3 : barredL.map (fun x => (DataW.lit (.string x) : DataW Unit)) = xs.map (·.1) := DataW.agg.inj (Prod.mk.inj hx1).1
  have e4 := congrArg (·[i]?) e3
  simp only [List.getElem?_map, hx, List.getElem?_eq_getElem (by omega : i < xs.length), Option.map_some, e2, Option.some.injEq, DataW.lit.injEq, Lit.string.injEq] at e4
  have hz : z = ⟨x.toArray⟩ := by rw [e4]
  rw [World.var?_cell hg1 hv1 i, ← hz]
  have h0 : ((cs1.toList.drop i).take 1)[0]? = some (.string z) := by rw [e1]; rfl
  simpa using h0
theorem barred_of_four {W : World} (h : laidMetH Tryd.prog [("unicode/utf8.acceptRanges", Rows.laid_unicode_utf8_acceptRanges), ("taxirank/names.taken", Rows.laid_taxirank_names_taken), ("taxirank/parse.barred", Rows.laid_taxirank_parse_barred), ("unicode/utf8.first", Rows.laid_unicode_utf8_first)] W) : BarredAt W := by
  rw [MakeChecks.laidMetH_plain _ _ _ (by kernel_rfl)] at h
  obtain ⟨ps, ⟨g0, t0, cs0, f0, p0, q0, hg0, ht0, hv0, hd0, ⟨g1, t1, cs1, f1, p1, q1, hg1, ht1, hv1, hd1, ⟨g2, t2, cs2, f2, p2, q2, hg2, ht2, hv2, hd2, _, _⟩, _⟩, _⟩, _, _⟩ := h
  obtain rfl := Option.some.inj ((show Tryd.prog.globalNamed "taxirank/parse.barred" = some 0 by kernel_rfl).symm.trans hg2)
  obtain rfl := Option.some.inj ((show (Tryd.prog.globals[0]?).map (·.type) = some 92 by kernel_rfl).symm.trans ht2)
  obtain ⟨xs, m1, rfl, hx1, hlen, hn3, hel⟩ := DataW.trod_array Tryd.underlying92 hd2
  have c9 : Tryd.prog.cellsOf 9 = 1 := by kernel_rfl
  intro i x hx
  have hi : i < 20 := (List.getElem?_eq_some_iff.1 hx).1
  have hE := hel i hi
  rw [c9, Nat.mul_one, List.getElem?_eq_getElem (by omega)] at hE
  obtain ⟨z, e1, e2, _⟩ := DataW.trod_string Tryd.underlying9 hE
  have e3 : barredL.map (fun x => (DataW.lit (.string x) : DataW Unit)) = xs.map (·.1) := DataW.agg.inj (Prod.mk.inj hx1).1
  have e4 := congrArg (·[i]?) e3
  simp only [List.getElem?_map, hx, List.getElem?_eq_getElem (by omega : i < xs.length), Option.map_some, e2, Option.some.injEq, DataW.lit.injEq, Lit.string.injEq] at e4
  have hz : z = ⟨x.toArray⟩ := by rw [e4]
  rw [World.var?_cell hg2 hv2 i, ← hz]
  have h0 : ((cs2.toList.drop i).take 1)[0]? = some (.string z) := by rw [e1]; rfl
  simpa using h0
/-- The taken words. -/
theorem taken_of_four {W : World} (h : laidMetH Tryd.prog [("unicode/utf8.acceptRanges", Rows.laid_unicode_utf8_acceptRanges), ("taxirank/names.taken", Rows.laid_taxirank_names_taken), ("taxirank/parse.barred", Rows.laid_taxirank_parse_barred), ("unicode/utf8.first", Rows.laid_unicode_utf8_first)] W) : TakenAt W := by
  rw [MakeChecks.laidMetH_plain _ _ _ (by kernel_rfl)] at h
  obtain ⟨ps, ⟨g0, t0, cs0, f0, p0, q0, hg0, ht0, hv0, hd0, ⟨g1, t1, cs1, f1, p1, q1, hg1, ht1, hv1, hd1, _, _⟩, _⟩, _, _⟩ := h
  obtain rfl := Option.some.inj ((show Tryd.prog.globalNamed "taxirank/names.taken" = some 1 by kernel_rfl).symm.trans hg1)
  obtain rfl := Option.some.inj ((show (Tryd.prog.globals[1]?).map (·.type) = some 104 by kernel_rfl).symm.trans ht1)
  obtain ⟨xs, m1, rfl, hx1, hlen, hn3, hel⟩ := DataW.trod_array Tryd.underlying104 hd1
  have c9 : Tryd.prog.cellsOf 9 = 1 := by kernel_rfl
  intro i x hx
  have hi : i < 10 := (List.getElem?_eq_some_iff.1 hx).1
  have hE := hel i hi
  rw [c9, Nat.mul_one, List.getElem?_eq_getElem (by omega)] at hE
  obtain ⟨z, e1, e2, _⟩ := DataW.trod_string Tryd.underlying9 hE
  have e3 : takenL.map (fun x => (DataW.lit (.string x) : DataW Unit)) = xs.map (·.1) := DataW.agg.inj (Prod.mk.inj hx1).1
  have e4 := congrArg (·[i]?) e3
  simp only [List.getElem?_map, hx, List.getElem?_eq_getElem (by omega : i < xs.length), Option.map_some, e2, Option.some.injEq, DataW.lit.injEq, Lit.string.injEq] at e4
  have hz : z = ⟨x.toArray⟩ := by rw [e4]
  rw [World.var?_cell hg1 hv1 i, ← hz]
  have h0 : ((cs1.toList.drop i).take 1)[0]? = some (.string z) := by rw [e1]; rfl
  simpa using h0
theorem p_cat (a b : ByteArray) : bytes (a ++ b) = bytes a ++ bytes b := by simp [bytes]
end Go.Proofs.YtgopajddloeclaaDoor

namespace Go.Proofs.YtgopajddloeclaaDoor
open Go.RowKit Go.Lib Go.WideShapes

theorem TokOff.first {w : World} {p : Option Addr} {t : Tok} {r : List Tok} (h : TokOff w p (t :: r)) : ∃ g off, p = some ⟨g, off, none⟩ ∧ g < w.heap.size ∧ TokOff w (some ⟨g, off, none⟩) (t :: r) := by
  have hA' := h
  rcases h with h | ⟨g, off, hp, hg, _⟩
  · cases h
  · exact ⟨g, off, hp, hg, by rw [← hp]; exact hA'⟩
theorem kind_eq (t : Tok) (k : UInt8) : (t.kind == k) = decide (t.kind.toNat = k.toNat) := by rw [Bool.eq_iff_iff]; simp [← UInt8.toNat_inj]
theorem str_list (t : Bs) : (⟨t.toArray⟩ : ByteArray).toList = t := by rw [Lib.toList_data]

set_option maxHeartbeats 2000000 in
theorem pbegins_any (p : Option Addr) (T : List Tok) (n c : Nat) (W : ByteArray) (w : World) (hT : T.length = n) (hn : n ≤ 100000) (hA : TokOff w p T) :
    Calls Tryd.prog 69 #[.slice p n c, .string W] w fun e w' => e = .returned (.bool (beginsW T (bytes W))) ∧ ∃ k, w' = w.drewN k := by
  cases T with
  | nil =>
    obtain rfl : 0 = n := hT
    clear hA
    go_enter Tryd.func69, Tryd.ntmps69
    go_wp2_with fail
    go_ret
    exact ⟨rfl, 0, rfl⟩
  | cons t r =>
    obtain ⟨g, off, rfl, hg, hc⟩ := hA.first
    obtain ⟨_, a0, a1, _, _⟩ := hc.get (i := 0) rfl
    simp only [Nat.zero_mul, Nat.add_zero] at a0 a1
    have hn1 : (1 : Int) ≤ n := by rw [← hT, List.length_cons]; omega
    have e : beginsW (t :: r) (bytes W) = (decide (t.kind.toNat = 119) && (t.text == bytes W)) := by show (t.kind == 119 && t.text == bytes W) = _; rw [kind_eq]; rfl
    rw [e]
    have hx : (⟨t.text.toArray⟩ : ByteArray).toList = t.text := str_list _
    have hw : W.toList = bytes W := Lib.toList_data W
    clear hA hc hT e
    generalize (⟨t.text.toArray⟩ : ByteArray) = XT at a1 hx
    generalize t.kind.toNat = kk at a0
    by_cases h1 : kk = 119
    · have hb : ((kk : Int) == 119) = true := by simp; omega
      rw [decide_eq_true h1]
      clear h1
      cases h2 : (t.text == bytes W) with
      | true =>
        have hb2 : (XT.toList == W.toList) = true := by rw [hx, hw]; exact h2
        clear hx hw h2
        go_enter Tryd.func69, Tryd.ntmps69
        go_wp2_with fail
        go_ret
        exact ⟨rfl, 0, rfl⟩
      | false =>
        have hb2 : (XT.toList == W.toList) = false := by rw [hx, hw]; exact h2
        clear hx hw h2
        go_enter Tryd.func69, Tryd.ntmps69
        go_wp2_with fail
        go_ret
        exact ⟨rfl, 0, rfl⟩
    · have hb : ((kk : Int) == 119) = false := by simp; omega
      rw [decide_eq_false h1]
      clear h1 hx hw
      go_enter Tryd.func69, Tryd.ntmps69
      go_wp2_with fail
      go_ret
      exact ⟨rfl, 0, rfl⟩

theorem begins_below (p : Option Addr) (T : List Tok) (n c : Nat) (W : ByteArray) (w : World) (hT : T.length = n) (hn : n ≤ 100000) (hA : TokOff w p T) :
    Calls Tryd.prog 69 #[.slice p n c, .string W] w fun e w' => e = .returned (.bool (beginsW T (bytes W))) ∧ Below w.heap.size w w' :=
  (pbegins_any p T n c W w hT hn hA).mono fun _ _ ⟨h1, k, h2⟩ => ⟨h1, by rw [h2]; exact below_drewN (Below.refl _ _) k⟩

set_option maxHeartbeats 2000000 in
theorem alone_any (p : Option Addr) (T : List Tok) (n c : Nat) (W : ByteArray) (w : World) (hT : T.length = n) (hn : n ≤ 100000) (hA : TokOff w p T) :
    Calls Tryd.prog 41 #[.slice p n c, .string W] w fun e w' => e = .returned (.bool (aloneW T (bytes W))) ∧ Below w.heap.size w w' := by
  have e : aloneW T (bytes W) = (decide (n = 1) && beginsW T (bytes W)) := by unfold aloneW; rw [hT]; congr 1
  rw [e]
  have HB := Lib.hid (begins_below p T n c W w hT hn hA)
  generalize beginsW T (bytes W) = b at HB
  clear e hT hA
  by_cases h1 : n = 1
  · subst h1
    cases b with
    | true =>
      go_enter Tryd.func41, Tryd.ntmps41
      go_wp2_with fail
      refine HB.out.mono ?_; rintro e w1 ⟨rfl, hb1⟩
      have HB1 := Lib.hid hb1
      clear hb1
      go_wp2_with fail
      go_ret
      exact ⟨rfl, HB1.out⟩
    | false =>
      go_enter Tryd.func41, Tryd.ntmps41
      go_wp2_with fail
      refine HB.out.mono ?_; rintro e w1 ⟨rfl, hb1⟩
      have HB1 := Lib.hid hb1
      clear hb1
      go_wp2_with fail
      go_ret
      exact ⟨rfl, HB1.out⟩
  · have hb : ((n : Int) == 1) = false := by simp; omega
    rw [decide_eq_false h1]
    clear h1
    go_enter Tryd.func41, Tryd.ntmps41
    go_wp2_with fail
    go_ret
    exact ⟨rfl, Below.refl _ _⟩
end Go.Proofs.YtgopajddloeclaaDoor

namespace Go.Proofs.YtgopajddloeclaaDoor
open Go.RowKit Go.Lib Go.WideShapes

/-- A row of tokens is what is left. -/
def RowOut (T' : List Tok) (w : World) (e : Ending) (w' : World) : Prop := Below w.heap.size w w' ∧ ∃ p' n' c', e = .returned (.slice p' n' c') ∧ T'.length = n' ∧ n' ≤ c' ∧ c' ≤ 9223372036854775807 ∧ TokOff w' p' T'

theorem begins_some {T : List Tok} {W : Bs} (h : beginsW T W = true) : ∃ t r, T = t :: r := by
  cases T with
  | nil => cases h
  | cons t r => exact ⟨t, r, rfl⟩

/-- What lies behind the first token. -/
theorem behind_row {w : World} {g off n c : Nat} {t : Tok} {r : List Tok} (h : TokOff w (some ⟨g, off, none⟩) (t :: r)) (hT : (t :: r).length = n) (hc : n ≤ c) : TokOff w (some ⟨g, off + 4, none⟩) r ∧ r.length = n - 1 ∧ n - 1 ≤ c - 1 := by
  have := h.drop 1
  rw [Nat.one_mul] at this
  exact ⟨this, by rw [← hT]; simp, by omega⟩

set_option maxHeartbeats 2000000 in
theorem work_any (p : Option Addr) (T : List Tok) (n c : Nat) (w : World) (hT : T.length = n) (hn : n ≤ 100000) (hc : n ≤ c) (hc9 : c ≤ 9223372036854775807) (hA : TokOff w p T) :
    Calls Tryd.prog 43 #[.slice p n c] w (RowOut (workW T) w) := by
  have HB := Lib.hid (fun (S : ByteArray) W h => begins_below p T n c S W hT hn h)
  have HA := Lib.hid hA; have HT := Lib.hid hT
  have e : workW T = if beginsW T (bytes { data := #[119, 111, 114, 107] }) || beginsW T (bytes { data := #[116, 114, 97, 110, 115, 97, 99, 116, 105, 111, 110] }) then T.drop 1 else T := rfl
  rw [e]
  clear e hA hT
  cases h1 : beginsW T (bytes { data := #[119, 111, 114, 107] }) with
  | true =>
    obtain ⟨t, r, rfl⟩ := begins_some h1
    obtain ⟨g, off, rfl, hg, hA⟩ := HA.out.first
    have HBH := Lib.hid (behind_row hA HT.out hc)
    have hn1 : (1 : Int) ≤ n := by rw [← HT.out, List.length_cons]; omega
    have hn2 : (n : Int) ≤ c := by omega
    have H1 := Lib.hid h1
    clear h1 hA
    by_cases hc1 : c = 1
    · subst hc1
      obtain rfl : n = 1 := by omega
      go_enter Tryd.func43, Tryd.ntmps43
      go_wp2_with fail
      refine (HB.out _ w HA.out).mono ?_; rintro e w1 ⟨rfl, hb1⟩
      rw [H1.out]
      have HB1 := Lib.hid hb1
      clear hb1
      go_wp2_with fail
      go_ret
      refine ⟨HB1.out, _, _, _, rfl, ?_, ?_, by omega, .inl ?_⟩
      · exact HBH.out.2.1
      · simp
      · exact List.length_eq_zero_iff.1 HBH.out.2.1
    · have hc2 : (2 : Int) ≤ c := by omega
      go_enter Tryd.func43, Tryd.ntmps43
      go_wp2_with fail
      refine (HB.out _ w HA.out).mono ?_; rintro e w1 ⟨rfl, hb1⟩
      rw [H1.out]
      have HB1 := Lib.hid hb1
      clear hb1
      go_wp2_with fail
      go_ret
      exact ⟨HB1.out, _, _, _, rfl, HBH.out.2.1, HBH.out.2.2, by omega, HBH.out.1.step HB1.out⟩
  | false =>
    have H1 := Lib.hid h1
    clear h1
    cases h2 : beginsW T (bytes { data := #[116, 114, 97, 110, 115, 97, 99, 116, 105, 111, 110] }) with
    | true =>
      obtain ⟨t, r, rfl⟩ := begins_some h2
      obtain ⟨g, off, rfl, hg, hA⟩ := HA.out.first
      have HBH := Lib.hid (behind_row hA HT.out hc)
      have hn1 : (1 : Int) ≤ n := by rw [← HT.out, List.length_cons]; omega
      have hn2 : (n : Int) ≤ c := by omega
      have H2 := Lib.hid h2
      clear h2 hA
      by_cases hc1 : c = 1
      · subst hc1
        obtain rfl : n = 1 := by omega
        go_enter Tryd.func43, Tryd.ntmps43
        go_wp2_with fail
        refine (HB.out _ w HA.out).mono ?_; rintro e w1 ⟨rfl, hb1⟩
        rw [H1.out]
        have HB1 := Lib.hid hb1
        clear hb1
        go_wp2_with fail
        refine (HB.out _ w1 (HA.out.step HB1.out)).mono ?_; rintro e w2 ⟨rfl, hb2⟩
        rw [H2.out]
        have HB2 := Lib.hid (HB1.out.step hb2 HB1.out.size)
        clear hb2
        go_wp2_with fail
        go_ret
        refine ⟨HB2.out, _, _, _, rfl, ?_, ?_, by omega, .inl ?_⟩
        · exact HBH.out.2.1
        · simp
        · exact List.length_eq_zero_iff.1 HBH.out.2.1
      · have hc2 : (2 : Int) ≤ c := by omega
        go_enter Tryd.func43, Tryd.ntmps43
        go_wp2_with fail
        refine (HB.out _ w HA.out).mono ?_; rintro e w1 ⟨rfl, hb1⟩
        rw [H1.out]
        have HB1 := Lib.hid hb1
        clear hb1
        go_wp2_with fail
        refine (HB.out _ w1 (HA.out.step HB1.out)).mono ?_; rintro e w2 ⟨rfl, hb2⟩
        rw [H2.out]
        have HB2 := Lib.hid (HB1.out.step hb2 HB1.out.size)
        clear hb2
        go_wp2_with fail
        go_ret
        exact ⟨HB2.out, _, _, _, rfl, HBH.out.2.1, HBH.out.2.2, by omega, HBH.out.1.step HB2.out⟩
    | false =>
      have H2 := Lib.hid h2
      clear h2
      go_enter Tryd.func43, Tryd.ntmps43
      go_wp2_with fail
      refine (HB.out _ w HA.out).mono ?_; rintro e w1 ⟨rfl, hb1⟩
      rw [H1.out]
      have HB1 := Lib.hid hb1
      clear hb1
      go_wp2_with fail
      refine (HB.out _ w1 (HA.out.step HB1.out)).mono ?_; rintro e w2 ⟨rfl, hb2⟩
      rw [H2.out]
      have HB2 := Lib.hid (HB1.out.step hb2 HB1.out.size)
      clear hb2
      go_wp2_with fail
      go_ret
      exact ⟨HB2.out, _, _, _, rfl, HT.out, hc, hc9, HA.out.step HB2.out⟩

set_option maxHeartbeats 2000000 in
theorem save_any (p : Option Addr) (T : List Tok) (n c : Nat) (w : World) (hT : T.length = n) (hn : n ≤ 100000) (hc : n ≤ c) (hc9 : c ≤ 9223372036854775807) (hA : TokOff w p T) :
    Calls Tryd.prog 46 #[.slice p n c] w (RowOut (saveW T) w) := by
  have HB := Lib.hid (fun (S : ByteArray) W h => begins_below p T n c S W hT hn h)
  have HA := Lib.hid hA; have HT := Lib.hid hT
  have e : saveW T = if decide (1 < n) && beginsW T (bytes { data := #[115, 97, 118, 101, 112, 111, 105, 110, 116] }) then T.drop 1 else T := by unfold saveW; rw [hT]
  rw [e]
  clear e hA hT
  by_cases h0 : 1 < n
  · have h0' : (1 : Int) < n := by omega
    rw [decide_eq_true h0, Bool.true_and]
    cases h1 : beginsW T (bytes { data := #[115, 97, 118, 101, 112, 111, 105, 110, 116] }) with
    | true =>
      obtain ⟨t, r, rfl⟩ := begins_some h1
      obtain ⟨g, off, rfl, hg, hA⟩ := HA.out.first
      have HBH := Lib.hid (behind_row hA HT.out hc)
      have hn2 : (n : Int) ≤ c := by omega
      have H1 := Lib.hid h1
      have hc2 : (2 : Int) ≤ c := by omega
      clear h1 hA
      go_enter Tryd.func46, Tryd.ntmps46
      go_wp2_with fail
      refine (HB.out _ w HA.out).mono ?_; rintro e w1 ⟨rfl, hb1⟩
      rw [H1.out]
      have HB1 := Lib.hid hb1
      clear hb1
      go_wp2_with fail
      go_ret
      exact ⟨HB1.out, _, _, _, rfl, HBH.out.2.1, HBH.out.2.2, by omega, HBH.out.1.step HB1.out⟩
    | false =>
      have H1 := Lib.hid h1
      clear h1
      go_enter Tryd.func46, Tryd.ntmps46
      go_wp2_with fail
      refine (HB.out _ w HA.out).mono ?_; rintro e w1 ⟨rfl, hb1⟩
      rw [H1.out]
      have HB1 := Lib.hid hb1
      clear hb1
      go_wp2_with fail
      go_ret
      exact ⟨HB1.out, _, _, _, rfl, HT.out, hc, hc9, HA.out.step HB1.out⟩
  · have h0' : (n : Int) ≤ 1 := by omega
    rw [decide_eq_false h0, Bool.false_and]
    go_enter Tryd.func46, Tryd.ntmps46
    go_wp2_with fail
    go_ret
    exact ⟨Below.refl _ _, _, _, _, rfl, HT.out, hc, hc9, HA.out⟩
end Go.Proofs.YtgopajddloeclaaDoor
