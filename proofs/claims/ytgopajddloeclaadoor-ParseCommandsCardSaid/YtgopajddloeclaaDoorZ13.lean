/- Contracts and mathematics: PBarred, PCard, NTakeW, PBegins. -/
import Derived.Test.YtgopajddloeclaaDoorZ12
import Derived.Deep.LoopGhost
import Derived.ChangeKeysEq
import Derived.Deep.MidRow
import Derived.Test.YtgopajddloeclaaDoorZ1
import Derived.BigQuiet
import Derived.WalkSmall
import Derived.Deep.QuietTactic
namespace Go.Proofs.YtgopajddloeclaaDoor
open Go.RowKit Go.Lib Go.WideShapes

/-- The program's row of barred words. -/
def BarredAt (w : World) : Prop := ∀ (i : Nat) (x : Bs), barredL[i]? = some x → w.cell? ⟨0, i, none⟩ = some (.string ⟨x.toArray⟩)
theorem BarredAt.lt {w : World} (h : BarredAt w) : 0 < w.heap.size := World.block_lt_of_cell? w ⟨0, 0, none⟩ (h 0 _ rfl)
theorem BarredAt.step {w w' : World} (h : BarredAt w) (hb : Below w.heap.size w w') : BarredAt w' := fun i x hx => (hb.cell (p := ⟨0, i, none⟩) h.lt).trans (h i x hx)
theorem barred_step (l : Bs) (k : Nat) (x : Bs) (h : barredL[k]? = some x) : (barredL.drop k).any (fun y => y == l) = ((x == l) || (barredL.drop (k + 1)).any (fun y => y == l)) := by
  rw [List.drop_eq_getElem_cons (List.getElem?_eq_some_iff.1 h).1, List.any_cons, (List.getElem?_eq_some_iff.1 h).2]
theorem index_plain {P : Program} {t e : TypeId} {n : Nat} (cs : Array Value) (k : Nat) (v : Value) (w : World) (hu : P.underlying t = some (.array n e)) (hi : (P.info? e).isSome = true) (hc : P.cellsOf e = 1) (he : P.plainKey e = true) (hk : k < n) (hx : cs[k]? = some v) :
    (Instr.index t (.agg cs) (.int .i64 k)).run P w = .ok v w := by
  obtain ⟨i, hi⟩ := Option.isSome_iff_exists.1 hi
  have h := run_part_plain (P := P) w he hx
  simp [part, go_sem] at h
  simp [Instr.index, run_underlying hu, asIntOf, hk, run_sizeOf w hi, hc, go_sem]
  exact h
def barredA : Array Value := (barredL.map (fun x => (.string ⟨x.toArray⟩ : Value))).toArray
theorem barredA_get (k : Nat) (x : Bs) (h : barredL[k]? = some x) : barredA[k]? = some (.string ⟨x.toArray⟩) := by
  unfold barredA
  simp [h]
theorem barred_index (k : Nat) (x : Bs) (h : barredL[k]? = some x) (w : World) : (Instr.index 92 (.agg barredA) (.int .i64 k)).run Tryd.prog w = .ok (.string ⟨x.toArray⟩) w :=
  index_plain barredA k _ w Tryd.underlying92 (by kernel_rfl) (by kernel_rfl) (by kernel_rfl) (show k < 20 from (List.getElem?_eq_some_iff.1 h).1) (barredA_get k x h)
theorem barred_range (w : World) (h : BarredAt w) : w.rangeAt 0 0 (barredL.map (fun x => (.string ⟨x.toArray⟩ : Value))) := by
  intro j v hv
  rw [List.getElem?_map] at hv
  cases hx : barredL[j]? with
  | none => rw [hx] at hv; cases hv
  | some x => rw [hx] at hv; cases hv; rw [Nat.zero_add]; exact h j x hx
theorem barred_info : (Tryd.prog.info? 92).map (·.size) = some (barredL.map (fun x => (.string ⟨x.toArray⟩ : Value))).length := by kernel_rfl

set_option maxRecDepth 100000 in
set_option maxHeartbeats 4000000 in
theorem barred_any (s : ByteArray) (w : World) (hT : BarredAt w) :
    Calls Tryd.prog 27 #[.string s] w fun e w' => e = .returned (.bool (barredB (bytes s))) ∧ w = w' := by
  obtain ⟨R, hR⟩ : ∃ R, R = barredB (bytes s) := ⟨_, rfl⟩
  rw [← hR]
  have HR := Lib.hid (show R = (barredL.drop 0).any (fun y => y == bytes s) from hR)
  have HBI := Lib.hid (fun k x h w => barred_index k x h w)
  have HRG := Lib.hid (barred_range w hT)
  have HIN := Lib.hid barred_info
  unfold barredA at HBI
  generalize barredL.map (fun x => (.string ⟨x.toArray⟩ : Value)) = L at HBI HRG HIN
  clear hR hT
  go_enter Tryd.func27, Tryd.ntmps27
  go_wp2_with (refine wpList_load_mid rfl 92 _ rfl 0 0 rfl L _ HRG.out Tryd.underlying92 rfl HIN.out ?_)
  go_loopg [6] 20 (fun g v wr => ∃ k : Nat, v = .int .i64 k ∧ k ≤ 20 ∧ g = 20 - k ∧ wr = w ∧ R = (barredL.drop k).any (fun y => y == bytes s))
  case atStart => exact ⟨0, rfl, Nat.zero_le _, rfl, rfl, HR.out⟩
  case round =>
    obtain ⟨k, rfl, hk, hg, rfl, ho⟩ := hrel
    have HO := Lib.hid ho; have HG := Lib.hid hg
    clear ho hg
    by_cases hlt : k < 20
    · obtain ⟨x, hx⟩ : ∃ x, barredL[k]? = some x := ⟨_, List.getElem?_eq_getElem (by show k < 20; exact hlt)⟩
      have hI := HBI.out k x hx wr
      have hlt' : (k : Int) < 20 := by omega
      have HS := Lib.hid (barred_step (bytes s) k x hx)
      clear hx
      cases hb : (x == bytes s) with
      | true =>
        have HT := Lib.hid (show R = true by rw [HO.out, HS.out, hb]; rfl)
        have hb2 : (x == s.toList) = true := by rw [Lib.toList_data]; exact hb
        clear hb
        go_wp2_with fail
        go_ret
        exact ⟨by rw [HT.out]; rfl, rfl⟩
      | false =>
        have HN := Lib.hid (show R = (barredL.drop (k + 1)).any (fun y => y == bytes s) by rw [HO.out, HS.out, hb]; rfl)
        have hb2 : (x == s.toList) = false := by rw [Lib.toList_data]; exact hb
        clear hb
        go_wp2_with fail
        go_roundg (20 - (k + 1))
        case measure => have := HG.out; omega
        case rel => exact ⟨k + 1, by go_num, by omega, rfl, rfl, HN.out⟩
    · obtain rfl : k = 20 := by omega
      have HF := Lib.hid (show R = false from HO.out)
      go_wp2_with fail
      go_ret
      exact ⟨by rw [HF.out]; rfl, rfl⟩
end Go.Proofs.YtgopajddloeclaaDoor

namespace Go.Proofs.YtgopajddloeclaaDoor
open Go.RowKit Go.Lib Go.WideShapes Go.ChangeShapes Go.ChangeAt Go.Joins

/-- The barred words, out of what the rows list. -/
theorem barred_of_one {W : World} (h : laidMetH Tryd.prog [("taxirank/parse.barred", Rows.laid_taxirank_parse_barred)] W) : BarredAt W := by
  rw [MakeChecks.laidMetH_plain _ _ _ (by kernel_rfl)] at h
  obtain ⟨ps, ⟨g0, t0, cs0, f0, p0, q0, hg0, ht0, hv0, hd0, _, _⟩, _, _⟩ := h
  obtain rfl := Option.some.inj ((show Tryd.prog.globalNamed "taxirank/parse.barred" = some 0 by kernel_rfl).symm.trans hg0)
  obtain rfl := Option.some.inj ((show (Tryd.prog.globals[0]?).map (·.type) = some 92 by kernel_rfl).symm.trans ht0)
  obtain ⟨xs, m1, rfl, hx1, hlen, hn3, hel⟩ := DataW.trod_array Tryd.underlying92 hd0
  have c9 : Tryd.prog.cellsOf 9 = 1 := by kernel_rfl
  intro i x hx
  have hi : i < 20 := (List.getElem?_eq_some_iff.1 hx).1
  have hE := hel i hi
  rw [c9, Nat.mul_one, List.getElem?_eq_getElem (by omega)] at hE
  obtain ⟨z, e1, e2, _⟩ := DataW.trod_string Tryd.underlying9 hE
  have e3 : barredL.map (fun x => (DataW.lit (.string x) : DataW Unit)) = xs.map (·.1) := DataW.agg.inj (Prod.mk.inj hx1).1
  have e4 := congrArg (·[i]?) e3
  simp only [List.getElem?_map, hx, List.getElem?_eq_getElem (by omega : i < xs.length), Option.map_some, e2, Option.some.injEq, DataW.lit.injEq, Lit.string.injEq] at e4
  have hz : z = ⟨x.toArray⟩ := by rw [e4]
  rw [World.var?_cell hg0 hv0 i, ← hz]
  have h0 : ((cs0.toList.drop i).take 1)[0]? = some (.string z) := by rw [e1]; rfl
  simpa using h0
theorem barred_of_three {W : World} (h : laidMetH Tryd.prog [("unicode/utf8.acceptRanges", Rows.laid_unicode_utf8_acceptRanges), ("taxirank/parse.barred", Rows.laid_taxirank_parse_barred), ("unicode/utf8.first", Rows.laid_unicode_utf8_first)] W) : BarredAt W := by
  rw [MakeChecks.laidMetH_plain _ _ _ (by kernel_rfl)] at h
  obtain ⟨ps, ⟨g0, t0, cs0, f0, p0, q0, hg0, ht0, hv0, hd0, ⟨g1, t1, cs1, f1, p1, q1, hg1, ht1, hv1, hd1, _, _⟩, _⟩, _, _⟩ := h
  obtain rfl := Option.some.inj ((show Tryd.prog.globalNamed "taxirank/parse.barred" = some 0 by kernel_rfl).symm.trans hg1)
  obtain rfl := Option.some.inj ((show (Tryd.prog.globals[0]?).map (·.type) = some 92 by kernel_rfl).symm.trans ht1)
  obtain ⟨xs, m1, rfl, hx1, hlen, hn3, hel⟩ := DataW.trod_array Tryd.underlying92 hd1
  have c9 : Tryd.prog.cellsOf 9 = 1 := by kernel_rfl
  intro i x hx
  have hi : i < 20 := (List.getElem?_eq_some_iff.1 hx).1
  have hE := hel i hi
  rw [c9, Nat.mul_one, List.getElem?_eq_getElem (by omega)] at hE
  obtain ⟨z, e1, e2, _⟩ := DataW.trod_string Tryd.underlying9 hE
  have e3 : barredL.map (fun x => (DataW.lit (.string x) : DataW Unit)) = xs.map (·.1) := DataW.agg.inj (Prod.mk.inj hx1).1
  have e4 := congrArg (·[i]?) e3
  simp only [List.getElem?_map, hx, List.getElem?_eq_getElem (by omega : i < xs.length), Option.map_some, e2, Option.some.injEq, DataW.lit.injEq, Lit.string.injEq] at e4
  have hz : z = ⟨x.toArray⟩ := by rw [e4]
  rw [World.var?_cell hg1 hv1 i, ← hz]
  have h0 : ((cs1.toList.drop i).take 1)[0]? = some (.string z) := by rw [e1]; rfl
  simpa using h0
theorem barred_of_four {W : World} (h : laidMetH Tryd.prog [("unicode/utf8.acceptRanges", Rows.laid_unicode_utf8_acceptRanges), ("taxirank/names.taken", Rows.laid_taxirank_names_taken), ("taxirank/parse.barred", Rows.laid_taxirank_parse_barred), ("unicode/utf8.first", Rows.laid_unicode_utf8_first)] W) : BarredAt W := by
  rw [MakeChecks.laidMetH_plain _ _ _ (by kernel_rfl)] at h
  obtain ⟨ps, ⟨g0, t0, cs0, f0, p0, q0, hg0, ht0, hv0, hd0, ⟨g1, t1, cs1, f1, p1, q1, hg1, ht1, hv1, hd1, ⟨g2, t2, cs2, f2, p2, q2, hg2, ht2, hv2, hd2, _, _⟩, _⟩, _⟩, _, _⟩ := h
  obtain rfl := Option.some.inj ((show Tryd.prog.globalNamed "taxirank/parse.barred" = some 0 by kernel_rfl).symm.trans hg2)
  obtain rfl := Option.some.inj ((show (Tryd.prog.globals[0]?).map (·.type) = some 92 by kernel_rfl).symm.trans ht2)
  obtain ⟨xs, m1, rfl, hx1, hlen, hn3, hel⟩ := DataW.trod_array Tryd.underlying92 hd2
  have c9 : Tryd.prog.cellsOf 9 = 1 := by kernel_rfl
  intro i x hx
  have hi : i < 20 := (List.getElem?_eq_some_iff.1 hx).1
  have hE := hel i hi
  rw [c9, Nat.mul_one, List.getElem?_eq_getElem (by omega)] at hE
  obtain ⟨z, e1, e2, _⟩ := DataW.trod_string Tryd.underlying9 hE
  have e3 : barredL.map (fun x => (DataW.lit (.string x) : DataW Unit)) = xs.map (·.1) := DataW.agg.inj (Prod.mk.inj hx1).1
  have e4 := congrArg (·[i]?) e3
  simp only [List.getElem?_map, hx, List.getElem?_eq_getElem (by omega : i < xs.length), Option.map_some, e2, Option.some.injEq, DataW.lit.injEq, Lit.string.injEq] at e4
  have hz : z = ⟨x.toArray⟩ := by rw [e4]
  rw [World.var?_cell hg2 hv2 i, ← hz]
  have h0 : ((cs2.toList.drop i).take 1)[0]? = some (.string z) := by rw [e1]; rfl
  simpa using h0
/-- The taken words. -/
theorem taken_of_four {W : World} (h : laidMetH Tryd.prog [("unicode/utf8.acceptRanges", Rows.laid_unicode_utf8_acceptRanges), ("taxirank/names.taken", Rows.laid_taxirank_names_taken), ("taxirank/parse.barred", Rows.laid_taxirank_parse_barred), ("unicode/utf8.first", Rows.laid_unicode_utf8_first)] W) : TakenAt W := by
  rw [MakeChecks.laidMetH_plain _ _ _ (by kernel_rfl)] at h
  obtain ⟨ps, ⟨g0, t0, cs0, f0, p0, q0, hg0, ht0, hv0, hd0, ⟨g1, t1, cs1, f1, p1, q1, hg1, ht1, hv1, hd1, _, _⟩, _⟩, _, _⟩ := h
  obtain rfl := Option.some.inj ((show Tryd.prog.globalNamed "taxirank/names.taken" = some 1 by kernel_rfl).symm.trans hg1)
  obtain rfl := Option.some.inj ((show (Tryd.prog.globals[1]?).map (·.type) = some 104 by kernel_rfl).symm.trans ht1)
  obtain ⟨xs, m1, rfl, hx1, hlen, hn3, hel⟩ := DataW.trod_array Tryd.underlying104 hd1
  have c9 : Tryd.prog.cellsOf 9 = 1 := by kernel_rfl
  intro i x hx
  have hi : i < 10 := (List.getElem?_eq_some_iff.1 hx).1
  have hE := hel i hi
  rw [c9, Nat.mul_one, List.getElem?_eq_getElem (by omega)] at hE
  obtain ⟨z, e1, e2, _⟩ := DataW.trod_string Tryd.underlying9 hE
  have e3 : takenL.map (fun x => (DataW.lit (.string x) : DataW Unit)) = xs.map (·.1) := DataW.agg.inj (Prod.mk.inj hx1).1
  have e4 := congrArg (·[i]?) e3
  simp only [List.getElem?_map, hx, List.getElem?_eq_getElem (by omega : i < xs.length), Option.map_some, e2, Option.some.injEq, DataW.lit.injEq, Lit.string.injEq] at e4
  have hz : z = ⟨x.toArray⟩ := by rw [e4]
  rw [World.var?_cell hg1 hv1 i, ← hz]
  have h0 : ((cs1.toList.drop i).take 1)[0]? = some (.string z) := by rw [e1]; rfl
  simpa using h0
theorem p_cat (a b : ByteArray) : bytes (a ++ b) = bytes a ++ bytes b := by simp [bytes]
end Go.Proofs.YtgopajddloeclaaDoor

namespace Go.Proofs.YtgopajddloeclaaDoor
open Go.RowKit Go.Lib Go.WideShapes

/-- A row of tokens, their places any numbers. -/
def TokW (w : World) (p : Option Addr) (l : List Tok) : Prop := l = [] ∨ ∃ g off, p = some ⟨g, off, none⟩ ∧ g < w.heap.size ∧ ∀ (i : Nat) (q : Tok), l[i]? = some q → w.cell? ⟨g, off + i * 4, none⟩ = some (.int .u8 (q.kind.toNat : Nat)) ∧ w.cell? ⟨g, off + i * 4 + 1, none⟩ = some (.string ⟨q.text.toArray⟩) ∧ ∃ lo hi : Int, w.cell? ⟨g, off + i * 4 + 2, none⟩ = some (.int .i64 lo) ∧ w.cell? ⟨g, off + i * 4 + 3, none⟩ = some (.int .i64 hi)
theorem TokW.step {w w' : World} {p : Option Addr} {l : List Tok} (h : TokW w p l) (hb : Below w.heap.size w w') : TokW w' p l := by
  rcases h with h | ⟨g, off, hp, hg, hc⟩
  · exact .inl h
  · refine .inr ⟨g, off, hp, Nat.lt_of_lt_of_le hg hb.size, fun i q hq => ?_⟩
    obtain ⟨a0, a1, lo, hi, a2, a3⟩ := hc i q hq
    exact ⟨(hb.cell (p := ⟨g, off + i * 4, none⟩) hg).trans a0, (hb.cell (p := ⟨g, off + i * 4 + 1, none⟩) hg).trans a1, lo, hi, (hb.cell (p := ⟨g, off + i * 4 + 2, none⟩) hg).trans a2, (hb.cell (p := ⟨g, off + i * 4 + 3, none⟩) hg).trans a3⟩
theorem TokW.get {w : World} {g off : Nat} {l : List Tok} (h : TokW w (some ⟨g, off, none⟩) l) {i : Nat} {q : Tok} (hq : l[i]? = some q) : g < w.heap.size ∧ w.cell? ⟨g, off + i * 4, none⟩ = some (.int .u8 (q.kind.toNat : Nat)) ∧ w.cell? ⟨g, off + i * 4 + 1, none⟩ = some (.string ⟨q.text.toArray⟩) ∧ ∃ lo hi : Int, w.cell? ⟨g, off + i * 4 + 2, none⟩ = some (.int .i64 lo) ∧ w.cell? ⟨g, off + i * 4 + 3, none⟩ = some (.int .i64 hi) := by
  rcases h with h | ⟨g', off', hp, hg, hc⟩
  · rw [h] at hq; cases hq
  · cases hp; exact ⟨hg, hc i q hq⟩

set_option maxRecDepth 100000 in
set_option maxHeartbeats 4000000 in
theorem takew_any (p : Option Addr) (T : List Tok) (n c : Nat) (m : Int) (w : World) (hT : T.length = n) (hn : n ≤ 100000) (hA : TokW w p T) (hx : ∀ q ∈ T, q.text.length ≤ 2000) (hm : w.cell? ⟨2, 0, none⟩ = some (.int .i64 m)) :
    Calls Tryd.prog 71 #[.slice p n c] w (Took w (takeB T)) := by
  have HM := Lib.hid hm
  have HW0 := Lib.hid (World.block_lt_of_cell? w ⟨2, 0, none⟩ hm)
  have HG := Lib.hid (fun (S : ByteArray) (W : World) h1 h2 => good_any S m W h1 h2)
  have HF := Lib.hid (fun (S : Bs) (W : World) h1 => fold_bs S W h1)
  have HN := Lib.hid (fun k t lo hi W => named_any k t lo hi W)
  cases T with
  | nil =>
    obtain rfl : 0 = n := hT
    clear hA hx hm hn
    go_enter Tryd.func71, Tryd.ntmps71
    go_wp2_with fail
    go_ret2
    exact ⟨rfl, Below.refl _ _⟩
  | cons t r =>
    obtain ⟨g, off, rfl, hg, hc⟩ : ∃ g off, p = some ⟨g, off, none⟩ ∧ g < w.heap.size ∧ TokW w (some ⟨g, off, none⟩) (t :: r) := by
      have hA' := hA
      rcases hA with h | ⟨g, off, hp, hg, _⟩
      · cases h
      · exact ⟨g, off, hp, hg, by rw [← hp]; exact hA'⟩
    obtain ⟨_, a0, a1, tlo, thi, a2, a3⟩ := hc.get (i := 0) rfl
    simp only [Nat.zero_mul, Nat.add_zero] at a0 a1 a2 a3
    have hn1 : 0 < n := by rw [← hT]; exact Nat.succ_pos _
    have hn1' : (1 : Int) ≤ n := by omega
    have HTX := Lib.hid hx
    have HCC := Lib.hid hc
    have HTL := Lib.hid hT
    clear hA hx hm hT hc
    cases hnt : nm t with
    | false =>
      rw [takeB_no hnt]
      have HNT := Lib.hid hnt
      clear hnt
      go_enter Tryd.func71, Tryd.ntmps71
      go_wp2_with fail
      refine (HN.out t.kind t.text tlo thi w).mono ?_; rintro e w1 ⟨rfl, hb1⟩
      rw [show (t.kind == 119 || t.kind == 113) = false from HNT.out]
      have HB1 := Lib.hid hb1
      clear hb1
      go_wp2_with fail
      go_ret2
      exact ⟨rfl, HB1.out⟩
    | true =>
      have HNT := Lib.hid hnt
      clear hnt
      have htx : t.text.length ≤ 2000 := HTX.out t (List.mem_cons_self ..)
      go_enter Tryd.func71, Tryd.ntmps71
      go_wp2_with fail
      refine (HN.out t.kind t.text tlo thi w).mono ?_; rintro e w1 ⟨rfl, hb1⟩
      rw [show (t.kind == 119 || t.kind == 113) = true from HNT.out]
      have HB1 := Lib.hid hb1
      have a1 := (hb1.cell (p := ⟨g, off + 1, none⟩) hg).trans a1
      clear hb1 a0 a2 a3
      go_wp2_with fail
      refine (HF.out t.text w1 htx).mono ?_; rintro e w2 ⟨rfl, hb2⟩
      have HB2 := Lib.hid (HB1.out.step hb2 HB1.out.size)
      clear hb2 HB1
      obtain ⟨X, hX⟩ : ∃ X : ByteArray, X = ⟨(foldB t.text).toArray⟩ := ⟨_, rfl⟩
      rw [← hX]
      have hXs : X.size ≤ 2000 := by rw [hX, str_size, foldB_length]; exact htx
      have HXE := Lib.hid hX
      clear htx hX
      rcases r with _ | ⟨u, _ | ⟨v, r⟩⟩
      · obtain rfl : 1 = n := HTL.out
        have HTK := Lib.hid (show takes (t :: []) = (foldB t.text, 1) from rfl)
        clear HCC
        have HXX := Lib.hid HXE.out; have HBX := Lib.hid (show bytes X = foldB t.text by rw [HXE.out])
        clear HXE
        have HME := Lib.hid ((HB2.out.cell (p := ⟨2, 0, none⟩) HW0.out).trans HM.out)
        go_wp2_with fail
        refine (HG.out X w2 (by omega) HME.out).mono ?_; rintro e w9 ⟨rfl, hb9⟩
        have HB9 := Lib.hid (HB2.out.step (below_drew hb9) HB2.out.size)
        have HRR := Lib.hid (takeB_yes HNT.out HTK.out)
        rw [HBX.out]
        clear hb9 HME
        cases hgd : goodB (foldB t.text) with
        | true =>
          rw [hgd, if_pos rfl] at HRR
          clear hgd
          go_wp2_with fail
          go_ret2
          rw [HRR.out]
          exact ⟨by rw [← HXX.out]; rfl, HB9.out⟩
        | false =>
          rw [hgd, if_neg (by simp)] at HRR
          clear hgd
          go_wp2_with fail
          go_ret2
          rw [HRR.out]
          exact ⟨rfl, HB9.out⟩
      · obtain rfl : 2 = n := HTL.out
        have HTK := Lib.hid (show takes (t :: [u]) = (foldB t.text, 1) from rfl)
        clear HCC
        have HXX := Lib.hid HXE.out; have HBX := Lib.hid (show bytes X = foldB t.text by rw [HXE.out])
        clear HXE
        have HME := Lib.hid ((HB2.out.cell (p := ⟨2, 0, none⟩) HW0.out).trans HM.out)
        go_wp2_with fail
        refine (HG.out X w2 (by omega) HME.out).mono ?_; rintro e w9 ⟨rfl, hb9⟩
        have HB9 := Lib.hid (HB2.out.step (below_drew hb9) HB2.out.size)
        have HRR := Lib.hid (takeB_yes HNT.out HTK.out)
        rw [HBX.out]
        clear hb9 HME
        cases hgd : goodB (foldB t.text) with
        | true =>
          rw [hgd, if_pos rfl] at HRR
          clear hgd
          go_wp2_with fail
          go_ret2
          rw [HRR.out]
          exact ⟨by rw [← HXX.out]; rfl, HB9.out⟩
        | false =>
          rw [hgd, if_neg (by simp)] at HRR
          clear hgd
          go_wp2_with fail
          go_ret2
          rw [HRR.out]
          exact ⟨rfl, HB9.out⟩
      · have hn3 : 3 ≤ n := by rw [← HTL.out]; simp
        have hn3' : (3 : Int) ≤ n := by omega
        have hc2 := HCC.out.step HB2.out
        obtain ⟨_, b0, b1, ulo, uhi, b2, b3⟩ := hc2.get (i := 1) rfl
        obtain ⟨_, d0, d1, vlo, vhi, d2, d3⟩ := hc2.get (i := 2) rfl
        simp only [Nat.one_mul, Nat.reduceMul] at b0 b1 b2 b3 d0 d1 d2 d3
        have hg2 : g < w2.heap.size := Nat.lt_of_lt_of_le hg HB2.out.size
        clear hc2 b2 b3
        have HKU := Lib.hid (show (u.kind == 111) = decide (u.kind.toNat = 111) by rw [Bool.eq_iff_iff]; simp [← UInt8.toNat_inj])
        by_cases k1 : u.kind.toNat = 111
        · have k2 : ((u.kind.toNat : Int) == 111) = true := by simp; omega
          have HK1 := Lib.hid k1
          clear k1
          cases k3 : (u.text == [46]) with
          | false =>
            have HTK := Lib.hid (show takes (t :: u :: v :: r) = (foldB t.text, 1) from takes_short1 (.inr (.inl k3)))
            clear HCC HKU HK1
            have HXX := Lib.hid HXE.out; have HBX := Lib.hid (show bytes X = foldB t.text by rw [HXE.out])
            clear HXE
            have HME := Lib.hid ((HB2.out.cell (p := ⟨2, 0, none⟩) HW0.out).trans HM.out)
            go_wp2_with fail
            refine (HG.out X w2 (by omega) HME.out).mono ?_; rintro e w9 ⟨rfl, hb9⟩
            have HB9 := Lib.hid (HB2.out.step (below_drew hb9) HB2.out.size)
            have HRR := Lib.hid (takeB_yes HNT.out HTK.out)
            rw [HBX.out]
            clear hb9 HME
            cases hgd : goodB (foldB t.text) with
            | true =>
              rw [hgd, if_pos rfl] at HRR
              clear hgd
              go_wp2_with fail
              go_ret2
              rw [HRR.out]
              exact ⟨by rw [← HXX.out]; rfl, HB9.out⟩
            | false =>
              rw [hgd, if_neg (by simp)] at HRR
              clear hgd
              go_wp2_with fail
              go_ret2
              rw [HRR.out]
              exact ⟨rfl, HB9.out⟩
          | true =>
            go_wp2_with fail
            refine (HN.out v.kind v.text vlo vhi w2).mono ?_; rintro e w3 ⟨rfl, hb3⟩
            have HB3 := Lib.hid (HB2.out.step hb3 HB2.out.size)
            have d1 := (hb3.cell (p := ⟨g, off + 8 + 1, none⟩) hg2).trans d1
            clear hb3 b0 b1 d0 d2 d3
            cases k4 : (v.kind == 119 || v.kind == 113) with
            | false =>
              have HTK := Lib.hid (show takes (t :: u :: v :: r) = (foldB t.text, 1) from takes_short1 (.inr (.inr k4)))
              clear HCC HKU HK1 k4
              have HXX := Lib.hid HXE.out; have HBX := Lib.hid (show bytes X = foldB t.text by rw [HXE.out])
              clear HXE
              have HME := Lib.hid ((HB3.out.cell (p := ⟨2, 0, none⟩) HW0.out).trans HM.out)
              go_wp2_with fail
              refine (HG.out X w3 (by omega) HME.out).mono ?_; rintro e w9 ⟨rfl, hb9⟩
              have HB9 := Lib.hid (HB3.out.step (below_drew hb9) HB3.out.size)
              have HRR := Lib.hid (takeB_yes HNT.out HTK.out)
              rw [HBX.out]
              clear hb9 HME
              cases hgd : goodB (foldB t.text) with
              | true =>
                rw [hgd, if_pos rfl] at HRR
                clear hgd
                go_wp2_with fail
                go_ret2
                rw [HRR.out]
                exact ⟨by rw [← HXX.out]; rfl, HB9.out⟩
              | false =>
                rw [hgd, if_neg (by simp)] at HRR
                clear hgd
                go_wp2_with fail
                go_ret2
                rw [HRR.out]
                exact ⟨rfl, HB9.out⟩
            | true =>
              have HTK := Lib.hid (show takes (t :: u :: v :: r) = (foldB t.text ++ 46 :: foldB v.text, 3) from takes_long (by rw [HKU.out, decide_eq_true HK1.out]) k3 k4)
              have hvx : v.text.length ≤ 2000 := HTX.out v (by simp)
              clear HCC HKU HK1 k4
              go_wp2_with fail
              refine (HF.out v.text w3 hvx).mono ?_; rintro e w4 ⟨rfl, hb4⟩
              have HB4 := Lib.hid (HB3.out.step hb4 HB3.out.size)
              obtain ⟨Y, hY⟩ : ∃ Y : ByteArray, Y = ⟨(foldB v.text).toArray⟩ := ⟨_, rfl⟩
              rw [← hY]
              have hYs : Y.size ≤ 2000 := by rw [hY, str_size, foldB_length]; exact hvx
              have hXY : X ++ { data := #[46] } ++ Y = ⟨(foldB t.text ++ 46 :: foldB v.text).toArray⟩ := by
                rw [HXE.out, hY, show ({ data := #[46] } : ByteArray) = ⟨[46].toArray⟩ from rfl, str_cat, str_cat]; simp
              have HXX := Lib.hid hXY
              have HBX := Lib.hid (show bytes (X ++ { data := #[46] } ++ Y) = foldB t.text ++ 46 :: foldB v.text by rw [hXY])
              clear hb4 HXE hY hXY hvx
              have HME := Lib.hid ((HB4.out.cell (p := ⟨2, 0, none⟩) HW0.out).trans HM.out)
              go_wp2_with fail
              refine (HG.out _ w4 (by simp only [ByteArray.size_append]; show X.size + 1 + Y.size ≤ 100000; omega) HME.out).mono ?_; rintro e w9 ⟨rfl, hb9⟩
              have HB9 := Lib.hid (HB4.out.step (below_drew hb9) HB4.out.size)
              have HRR := Lib.hid (takeB_yes HNT.out HTK.out)
              rw [HBX.out]
              clear hb9 HME
              cases hgd : goodB (foldB t.text ++ 46 :: foldB v.text) with
              | true =>
                rw [hgd, if_pos rfl] at HRR
                clear hgd
                go_wp2_with fail
                go_ret2
                rw [HRR.out]
                exact ⟨by rw [← HXX.out]; rfl, HB9.out⟩
              | false =>
                rw [hgd, if_neg (by simp)] at HRR
                clear hgd
                go_wp2_with fail
                go_ret2
                rw [HRR.out]
                exact ⟨rfl, HB9.out⟩
        · have k2 : ((u.kind.toNat : Int) == 111) = false := by simp; omega
          have HTK := Lib.hid (show takes (t :: u :: v :: r) = (foldB t.text, 1) from takes_short1 (.inl (by rw [HKU.out, decide_eq_false k1])))
          clear HCC HKU k1
          have HXX := Lib.hid HXE.out; have HBX := Lib.hid (show bytes X = foldB t.text by rw [HXE.out])
          clear HXE
          have HME := Lib.hid ((HB2.out.cell (p := ⟨2, 0, none⟩) HW0.out).trans HM.out)
          go_wp2_with fail
          refine (HG.out X w2 (by omega) HME.out).mono ?_; rintro e w9 ⟨rfl, hb9⟩
          have HB9 := Lib.hid (HB2.out.step (below_drew hb9) HB2.out.size)
          have HRR := Lib.hid (takeB_yes HNT.out HTK.out)
          rw [HBX.out]
          clear hb9 HME
          cases hgd : goodB (foldB t.text) with
          | true =>
            rw [hgd, if_pos rfl] at HRR
            clear hgd
            go_wp2_with fail
            go_ret2
            rw [HRR.out]
            exact ⟨by rw [← HXX.out]; rfl, HB9.out⟩
          | false =>
            rw [hgd, if_neg (by simp)] at HRR
            clear hgd
            go_wp2_with fail
            go_ret2
            rw [HRR.out]
            exact ⟨rfl, HB9.out⟩
end Go.Proofs.YtgopajddloeclaaDoor

namespace Go.Proofs.YtgopajddloeclaaDoor
open Go.RowKit Go.Lib Go.WideShapes

theorem TokOff.w {w : World} {p : Option Addr} {l : List Tok} (h : TokOff w p l) : TokW w p l := by
  rcases h with h | ⟨g, off, hp, hg, hc⟩
  · exact .inl h
  · refine .inr ⟨g, off, hp, hg, fun i q hq => ?_⟩
    obtain ⟨a0, a1, a2, a3⟩ := hc i q hq
    exact ⟨a0, a1, _, _, a2, a3⟩
theorem TokW.take {w : World} {p : Option Addr} {l : List Tok} (h : TokW w p l) (k : Nat) : TokW w p (l.take k) := by
  rcases h with rfl | ⟨g, off, hp, hg, hc⟩
  · exact .inl (by simp)
  · refine .inr ⟨g, off, hp, hg, fun i q hq => hc i q ?_⟩
    rw [List.getElem?_take] at hq
    split at hq
    · exact hq
    · cases hq
theorem TokW.drop {w : World} {g off : Nat} {l : List Tok} (h : TokW w (some ⟨g, off, none⟩) l) (k : Nat) : TokW w (some ⟨g, off + k * 4, none⟩) (l.drop k) := by
  rcases h with rfl | ⟨g, off, hp, hg, hc⟩
  · exact .inl (by simp)
  · cases hp
    refine .inr ⟨_, _, rfl, hg, fun i q hq => ?_⟩
    rw [List.getElem?_drop] at hq
    have := hc (k + i) q hq
    rw [show off + k * 4 + i * 4 = off + (k + i) * 4 by omega]
    exact this
theorem TokW.first {w : World} {p : Option Addr} {t : Tok} {r : List Tok} (h : TokW w p (t :: r)) : ∃ g off, p = some ⟨g, off, none⟩ ∧ g < w.heap.size ∧ TokW w (some ⟨g, off, none⟩) (t :: r) := by
  have hA' := h
  rcases h with h | ⟨g, off, hp, hg, _⟩
  · cases h
  · exact ⟨g, off, hp, hg, by rw [← hp]; exact hA'⟩
theorem kind_eq (t : Tok) (k : UInt8) : (t.kind == k) = decide (t.kind.toNat = k.toNat) := by rw [Bool.eq_iff_iff]; simp [← UInt8.toNat_inj]
theorem str_list (t : Bs) : (⟨t.toArray⟩ : ByteArray).toList = t := by rw [Lib.toList_data]

set_option maxRecDepth 100000 in
set_option maxHeartbeats 2000000 in
theorem pbegins_any (p : Option Addr) (T : List Tok) (n c : Nat) (W : ByteArray) (w : World) (hT : T.length = n) (hn : n ≤ 100000) (hA : TokW w p T) :
    Calls Tryd.prog 69 #[.slice p n c, .string W] w fun e w' => e = .returned (.bool (beginsW T (bytes W))) ∧ ∃ k, w' = w.drewN k := by
  cases T with
  | nil =>
    obtain rfl : 0 = n := hT
    clear hA
    go_enter Tryd.func69, Tryd.ntmps69
    go_wp2_with fail
    go_ret
    exact ⟨rfl, 0, rfl⟩
  | cons t r =>
    obtain ⟨g, off, rfl, hg, hc⟩ := hA.first
    obtain ⟨_, a0, a1, _, _⟩ := hc.get (i := 0) rfl
    simp only [Nat.zero_mul, Nat.add_zero] at a0 a1
    have hn1 : (1 : Int) ≤ n := by rw [← hT, List.length_cons]; omega
    have e : beginsW (t :: r) (bytes W) = (decide (t.kind.toNat = 119) && (t.text == bytes W)) := by show (t.kind == 119 && t.text == bytes W) = _; rw [kind_eq]; rfl
    rw [e]
    have hx : (⟨t.text.toArray⟩ : ByteArray).toList = t.text := str_list _
    have hw : W.toList = bytes W := Lib.toList_data W
    clear hA hc hT e
    generalize (⟨t.text.toArray⟩ : ByteArray) = XT at a1 hx
    generalize t.kind.toNat = kk at a0
    by_cases h1 : kk = 119
    · have hb : ((kk : Int) == 119) = true := by simp; omega
      rw [decide_eq_true h1]
      clear h1
      cases h2 : (t.text == bytes W) with
      | true =>
        have hb2 : (XT.toList == W.toList) = true := by rw [hx, hw]; exact h2
        clear hx hw h2
        go_enter Tryd.func69, Tryd.ntmps69
        go_wp2_with fail
        go_ret
        exact ⟨rfl, 0, rfl⟩
      | false =>
        have hb2 : (XT.toList == W.toList) = false := by rw [hx, hw]; exact h2
        clear hx hw h2
        go_enter Tryd.func69, Tryd.ntmps69
        go_wp2_with fail
        go_ret
        exact ⟨rfl, 0, rfl⟩
    · have hb : ((kk : Int) == 119) = false := by simp; omega
      rw [decide_eq_false h1]
      clear h1 hx hw
      go_enter Tryd.func69, Tryd.ntmps69
      go_wp2_with fail
      go_ret
      exact ⟨rfl, 0, rfl⟩

theorem begins_below (p : Option Addr) (T : List Tok) (n c : Nat) (W : ByteArray) (w : World) (hT : T.length = n) (hn : n ≤ 100000) (hA : TokW w p T) :
    Calls Tryd.prog 69 #[.slice p n c, .string W] w fun e w' => e = .returned (.bool (beginsW T (bytes W))) ∧ Below w.heap.size w w' :=
  (pbegins_any p T n c W w hT hn hA).mono fun _ _ ⟨h1, k, h2⟩ => ⟨h1, by rw [h2]; exact below_drewN (Below.refl _ _) k⟩

set_option maxRecDepth 100000 in
set_option maxHeartbeats 2000000 in
theorem alone_any (p : Option Addr) (T : List Tok) (n c : Nat) (W : ByteArray) (w : World) (hT : T.length = n) (hn : n ≤ 100000) (hA : TokW w p T) :
    Calls Tryd.prog 41 #[.slice p n c, .string W] w fun e w' => e = .returned (.bool (aloneW T (bytes W))) ∧ Below w.heap.size w w' := by
  have e : aloneW T (bytes W) = (decide (n = 1) && beginsW T (bytes W)) := by unfold aloneW; rw [hT]; congr 1
  rw [e]
  have HB := Lib.hid (begins_below p T n c W w hT hn hA)
  generalize beginsW T (bytes W) = b at HB
  clear e hT hA
  by_cases h1 : n = 1
  · subst h1
    cases b with
    | true =>
      go_enter Tryd.func41, Tryd.ntmps41
      go_wp2_with fail
      refine HB.out.mono ?_; rintro e w1 ⟨rfl, hb1⟩
      have HB1 := Lib.hid hb1
      clear hb1
      go_wp2_with fail
      go_ret
      exact ⟨rfl, HB1.out⟩
    | false =>
      go_enter Tryd.func41, Tryd.ntmps41
      go_wp2_with fail
      refine HB.out.mono ?_; rintro e w1 ⟨rfl, hb1⟩
      have HB1 := Lib.hid hb1
      clear hb1
      go_wp2_with fail
      go_ret
      exact ⟨rfl, HB1.out⟩
  · have hb : ((n : Int) == 1) = false := by simp; omega
    rw [decide_eq_false h1]
    clear h1
    go_enter Tryd.func41, Tryd.ntmps41
    go_wp2_with fail
    go_ret
    exact ⟨rfl, Below.refl _ _⟩
end Go.Proofs.YtgopajddloeclaaDoor
