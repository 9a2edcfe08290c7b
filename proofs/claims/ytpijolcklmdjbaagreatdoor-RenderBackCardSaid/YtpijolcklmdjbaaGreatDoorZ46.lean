/- Contracts and mathematics: PParse, GCardB. -/
import Derived.Test.YtpijolcklmdjbaaGreatDoorZ44
import Derived.Test.YtpijolcklmdjbaaGreatDoorZ17
import Derived.Test.YtpijolcklmdjbaaGreatDoorZ45
import Derived.Test.YtpijolcklmdjbaaGreatDoorZ21
namespace Go.Proofs.YtpijolcklmdjbaaGreatDoor
open Go.RowKit Go.Lib Go.WideShapes

theorem StAt.get {w : World} {p : Option Addr} {l : List St} {i : Nat} {x : St} (h : StAt w p l) (hx : l[i]? = some x) : ∃ g, p = some ⟨g, 0, none⟩ ∧ g < w.heap.size ∧ w.cell? ⟨g, i * 3, none⟩ = some (.slice x.u x.toks.length x.d) ∧ w.cell? ⟨g, i * 3 + 1, none⟩ = some (.int .i64 x.lo) ∧ w.cell? ⟨g, i * 3 + 2, none⟩ = some (.int .i64 x.hi) := h i x hx

theorem splits_mem' {T : List Tok} {x : List Tok} (h : splits T = [x]) : x.length ≤ T.length ∧ ∀ q ∈ x, q ∈ T := by
  have := splits_mem _ T (Nat.le_refl _) x (by rw [h]; exact List.mem_cons_self ..)
  exact ⟨this.2.2, fun q hq => (this.2.1 q hq).1⟩

set_option maxRecDepth 100000 in
set_option maxHeartbeats 4000000 in
theorem parse_any (s : ByteArray) (m : Int) (w : World) (hs : s.size ≤ 2000) (hm : w.cell? ⟨2, 0, none⟩ = some (.int .i64 m)) (hbar : BarredAt w) :
    Calls Tryz.prog 9 #[.string s] w fun e w' => e = .returned (.tuple #[(parsedC (bytes s)).1.val, .int .i64 ((parsedC (bytes s)).2 : Nat)]) ∧ Below w.heap.size w w' := by
  obtain ⟨q, hq⟩ : ∃ q, q = parsedC (bytes s) := ⟨_, rfl⟩
  rw [← hq]
  have HQ := Lib.hid hq
  clear hq
  have hsl : (bytes s).length ≤ 2000 := by rw [bytes_len]; exact hs
  unfold Cmd.val
  have HS := Lib.hid (Res.start w)
  have HW0 := Lib.hid (World.block_lt_of_cell? w ⟨2, 0, none⟩ hm)
  have HSP := Lib.hid (split_any s m _ hs (Lib.cell?_alloc_some (Obj.cells #[.int .u8 0, .string { data := #[] }, .string { data := #[] }] 23) hm))
  have HM := Lib.hid hm
  have HBR := Lib.hid hbar
  have HSL := Lib.hid hsl
  clear hm hbar hsl
  go_enter Tryz.func9, Tryz.ntmps9
  go_wp2_with fail
  refine HSP.out.mono ?_; rintro e w1 ⟨hb1, hcs⟩
  have HR1 := Lib.hid (HS.out.step hb1)
  have HM1 := Lib.hid ((HR1.out.below.cell (p := ⟨2, 0, none⟩) HW0.out).trans HM.out)
  have HBR1 := Lib.hid (HBR.out.step HR1.out.below)
  clear hb1 HSP
  rcases hcs with ⟨hT, rfl⟩ | ⟨T, xs, n, p, c, hT, hxs, hn, hn1, hnc, rfl, hst, hin⟩
  · have HE := Lib.hid (HQ.out.trans (parsed_none HSL.out hT))
    clear hT
    have c0 := HR1.out.c0
    have c1 := HR1.out.c1
    have c2 := HR1.out.c2
    have f0 := HR1.out.f0
    have f1 := HR1.out.f1
    have f2 := HR1.out.f2
    go_wp2_with fail
    obtain ⟨⟨k0, k1, k2⟩, hbb⟩ := HR1.out.put (.int .u8 0) (.string { data := #[] }) (.string { data := #[] })
    simp [bodyPost, results, Tryz.results9, go_sem, k0, k1, k2]
    rw [HE.out]
    exact ⟨⟨⟨rfl, rfl, rfl⟩, rfl⟩, hbb⟩
  · have HE := Lib.hid (HQ.out.trans (parsed_tokens HSL.out hT))
    have HTS := Lib.hid (show T.length ≤ 2000 ∧ ∀ q ∈ T, q.text.length ≤ 2000 from ⟨by have h1 := (tokens_facts hT).1; have h2 := HSL.out; omega, fun q hq => Nat.le_trans (tokens_small hT q hq) HSL.out⟩)
    have HXS := Lib.hid hxs; have HN := Lib.hid hn; have HST := Lib.hid hst; have HIN := Lib.hid hin
    clear hT hxs hn hst hin
    by_cases h0 : n = 0
    · have HE := Lib.hid (show q = (⟨48, [], []⟩, 0) by
        rw [HE.out]; unfold parsedT; rw [← HXS.out, List.length_eq_zero_iff.1 (HN.out.trans h0)]; rfl)
      subst h0
      have c0 := HR1.out.c0
      have c1 := HR1.out.c1
      have c2 := HR1.out.c2
      have f0 := HR1.out.f0
      have f1 := HR1.out.f1
      have f2 := HR1.out.f2
      go_wp2_with fail
      obtain ⟨⟨k0, k1, k2⟩, hbb⟩ := HR1.out.put (.int .u8 48) (.string { data := #[] }) (.string { data := #[] })
      simp [bodyPost, results, Tryz.results9, go_sem, k0, k1, k2]
      rw [HE.out]
      exact ⟨⟨⟨rfl, rfl, rfl⟩, rfl⟩, hbb⟩
    · by_cases h1 : n = 1
      · obtain ⟨x, hx⟩ : ∃ x, xs = [x] := List.length_eq_one_iff.1 (HN.out.trans h1)
        have HXX := Lib.hid (show splits T = [x.toks] by rw [← HXS.out, hx]; rfl)
        have HE := Lib.hid (show q = (ofC x.toks, 0) by rw [HE.out]; unfold parsedT; rw [HXX.out])
        obtain ⟨g, rfl, hg, b0, b1, b2⟩ := HST.out.get (i := 0) (x := x) (by rw [hx]; rfl)
        have HI := Lib.hid (HIN.out x (by rw [hx]; exact List.mem_cons_self ..))
        have HML := Lib.hid (splits_mem' HXX.out)
        simp only [Nat.zero_mul, Nat.zero_add] at b0 b1 b2
        have HOF := Lib.hid (of_any x.u x.toks x.toks.length x.d x.lo x.hi m w1 rfl (by have := HML.out.1; have := HTS.out.1; omega) HI.out.2.2.1 HI.out.2.2.2 HI.out.at.off (fun q hq => HTS.out.2 q (HML.out.2 q hq)) HM1.out HBR1.out)
        subst h1
        clear h0 hx
        go_wp2_with fail
        refine HOF.out.mono ?_; rintro e w2 ⟨rfl, hb2⟩
        have HR2 := Lib.hid (HR1.out.step hb2)
        clear hb2
        obtain ⟨k, hk⟩ : ∃ k, k = ofC x.toks := ⟨_, rfl⟩
        rw [← hk]
        have HE := Lib.hid (show q = (k, 0) by rw [HE.out, hk])
        clear hk
        unfold Cmd.val
        have c0 := HR2.out.c0
        have c1 := HR2.out.c1
        have c2 := HR2.out.c2
        have f0 := HR2.out.f0
        have f1 := HR2.out.f1
        have f2 := HR2.out.f2
        go_wp2_with fail
        obtain ⟨⟨k0, k1, k2⟩, hbb⟩ := HR2.out.put (.int .u8 (k.kind.toNat : Nat)) (.string ⟨k.name.toArray⟩) (.string ⟨k.value.toArray⟩)
        simp [bodyPost, results, Tryz.results9, go_sem, k0, k1, k2]
        rw [HE.out]
        exact ⟨⟨⟨rfl, rfl, rfl⟩, rfl⟩, hbb⟩
      · have h1' : (1 : Int) < n := by omega
        have h0b : ((n : Int) == 0) = false := by simp; omega
        have HE := Lib.hid (show q = (⟨109, [], []⟩, 0) by
          rw [HE.out]; unfold parsedT; rw [← HXS.out]
          match xs, HN.out with
          | [], h => exact absurd h.symm h0
          | [x], h => exact absurd h.symm h1
          | x :: y :: r, _ => rfl)
        clear h0 h1
        have c0 := HR1.out.c0
        have c1 := HR1.out.c1
        have c2 := HR1.out.c2
        have f0 := HR1.out.f0
        have f1 := HR1.out.f1
        have f2 := HR1.out.f2
        go_wp2_with fail
        obtain ⟨⟨k0, k1, k2⟩, hbb⟩ := HR1.out.put (.int .u8 109) (.string { data := #[] }) (.string { data := #[] })
        simp [bodyPost, results, Tryz.results9, go_sem, k0, k1, k2]
        rw [HE.out]
        exact ⟨⟨⟨rfl, rfl, rfl⟩, rfl⟩, hbb⟩
end Go.Proofs.YtpijolcklmdjbaaGreatDoor

namespace Go.Proofs.YtpijolcklmdjbaaGreatDoor
open Go.RowKit Go.Lib Go.WideShapes Go.ChangeShapes Go.ChangeAt Go.Joins

theorem barred_of_four {W : World} (h : laidMetH Tryz.prog [("unicode/utf8.acceptRanges", Rows.laid_unicode_utf8_acceptRanges), ("taxirank/names.taken", Rows.laid_taxirank_names_taken), ("taxirank/parse.barred", Rows.laid_taxirank_parse_barred), ("unicode/utf8.first", Rows.laid_unicode_utf8_first)] W) : BarredAt W := by
  rw [MakeChecks.laidMetH_plain _ _ _ (by kernel_rfl)] at h
  obtain ⟨ps, ⟨g0, t0, cs0, f0, p0, q0, hg0, ht0, hv0, hd0, ⟨g1, t1, cs1, f1, p1, q1, hg1, ht1, hv1, hd1, ⟨g2, t2, cs2, f2, p2, q2, hg2, ht2, hv2, hd2, _, _⟩, _⟩, _⟩, _, _⟩ := h
  obtain rfl := Option.some.inj ((show Tryz.prog.globalNamed "taxirank/parse.barred" = some 0 by kernel_rfl).symm.trans hg2)
  obtain rfl := Option.some.inj ((show (Tryz.prog.globals[0]?).map (·.type) = some 116 by kernel_rfl).symm.trans ht2)
  obtain ⟨xs, m1, rfl, hx1, hlen, hn3, hel⟩ := DataW.trod_array Tryz.underlying116 hd2
  have c9 : Tryz.prog.cellsOf 9 = 1 := by kernel_rfl
  intro i x hx
  have hi : i < 20 := (List.getElem?_eq_some_iff.1 hx).1
  have hE := hel i hi
  rw [c9, Nat.mul_one, List.getElem?_eq_getElem (by omega)] at hE
  obtain ⟨z, e1, e2, _⟩ := DataW.trod_string Tryz.underlying9 hE
  have e3 : barredL.map (fun x => (DataW.lit (.string x) : DataW Unit)) = xs.map (·.1) := DataW.agg.inj (Prod.mk.inj hx1).1
  have e4 := congrArg (·[i]?) e3
  simp only [List.getElem?_map, hx, List.getElem?_eq_getElem (by omega : i < xs.length), Option.map_some, e2, Option.some.injEq, DataW.lit.injEq, Lit.string.injEq] at e4
  have hz : z = ⟨x.toArray⟩ := by rw [e4]
  rw [World.var?_cell hg2 hv2 i, ← hz]
  have h0 : ((cs2.toList.drop i).take 1)[0]? = some (.string z) := by rw [e1]; rfl
  simpa using h0
/-- The taken words. -/
theorem taken_of_four {W : World} (h : laidMetH Tryz.prog [("unicode/utf8.acceptRanges", Rows.laid_unicode_utf8_acceptRanges), ("taxirank/names.taken", Rows.laid_taxirank_names_taken), ("taxirank/parse.barred", Rows.laid_taxirank_parse_barred), ("unicode/utf8.first", Rows.laid_unicode_utf8_first)] W) : TakenAt W := by
  rw [MakeChecks.laidMetH_plain _ _ _ (by kernel_rfl)] at h
  obtain ⟨ps, ⟨g0, t0, cs0, f0, p0, q0, hg0, ht0, hv0, hd0, ⟨g1, t1, cs1, f1, p1, q1, hg1, ht1, hv1, hd1, _, _⟩, _⟩, _, _⟩ := h
  obtain rfl := Option.some.inj ((show Tryz.prog.globalNamed "taxirank/names.taken" = some 1 by kernel_rfl).symm.trans hg1)
  obtain rfl := Option.some.inj ((show (Tryz.prog.globals[1]?).map (·.type) = some 126 by kernel_rfl).symm.trans ht1)
  obtain ⟨xs, m1, rfl, hx1, hlen, hn3, hel⟩ := DataW.trod_array Tryz.underlying126 hd1
  have c9 : Tryz.prog.cellsOf 9 = 1 := by kernel_rfl
  intro i x hx
  have hi : i < 10 := (List.getElem?_eq_some_iff.1 hx).1
  have hE := hel i hi
  rw [c9, Nat.mul_one, List.getElem?_eq_getElem (by omega)] at hE
  obtain ⟨z, e1, e2, _⟩ := DataW.trod_string Tryz.underlying9 hE
  have e3 : takenL.map (fun x => (DataW.lit (.string x) : DataW Unit)) = xs.map (·.1) := DataW.agg.inj (Prod.mk.inj hx1).1
  have e4 := congrArg (·[i]?) e3
  simp only [List.getElem?_map, hx, List.getElem?_eq_getElem (by omega : i < xs.length), Option.map_some, e2, Option.some.injEq, DataW.lit.injEq, Lit.string.injEq] at e4
  have hz : z = ⟨x.toArray⟩ := by rw [e4]
  rw [World.var?_cell hg1 hv1 i, ← hz]
  have h0 : ((cs1.toList.drop i).take 1)[0]? = some (.string z) := by rw [e1]; rfl
  simpa using h0
end Go.Proofs.YtpijolcklmdjbaaGreatDoor
