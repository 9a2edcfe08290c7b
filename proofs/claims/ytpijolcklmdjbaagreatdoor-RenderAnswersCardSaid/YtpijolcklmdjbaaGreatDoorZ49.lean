/- Contracts and mathematics: PParse, GCardB, GReply. -/
import Derived.Test.YtpijolcklmdjbaaGreatDoorZ47
import Derived.Test.YtpijolcklmdjbaaGreatDoorZ26
import Derived.Test.YtpijolcklmdjbaaGreatDoorZ48
import Derived.Test.YtpijolcklmdjbaaGreatDoorZ30
import Derived.Test.YtpijolcklmdjbaaGreatDoorZ31
import Derived.Deep.SlicePairs
import Derived.SliceStrings
import Derived.ChangeSlices
import Derived.Lib.SmallJoins
import Derived.Lib.LaidU8
namespace Go.Proofs.YtpijolcklmdjbaaGreatDoor
open Go.RowKit Go.Lib Go.WideShapes

theorem StAt.get {w : World} {p : Option Addr} {l : List St} {i : Nat} {x : St} (h : StAt w p l) (hx : l[i]? = some x) : ∃ g, p = some ⟨g, 0, none⟩ ∧ g < w.heap.size ∧ w.cell? ⟨g, i * 3, none⟩ = some (.slice x.u x.toks.length x.d) ∧ w.cell? ⟨g, i * 3 + 1, none⟩ = some (.int .i64 x.lo) ∧ w.cell? ⟨g, i * 3 + 2, none⟩ = some (.int .i64 x.hi) := h i x hx

end Go.Proofs.YtpijolcklmdjbaaGreatDoor

namespace Go.Proofs.YtpijolcklmdjbaaGreatDoor
open Go.RowKit Go.Lib Go.WideShapes Go.ChangeShapes Go.ChangeAt Go.Joins

end Go.Proofs.YtpijolcklmdjbaaGreatDoor

namespace Go.Proofs.YtpijolcklmdjbaaGreatDoor
open Go.RowKit Go.Lib Go.WideShapes Go.ChangeShapes Go.ChangeAt Go.Joins

theorem open_textsG {H : Type} {enc : TypeId × Value → H} {w : World} {fuel : Nat} {v : Value} {y : DataW H × List MemPlace} (hf : DataW.trod enc Tryz.prog w 0 (fun _ => true) true fuel 36 [v] = some y) :
    ∃ T, TextsIn w v T ∧ ∀ t ∈ T, t.length ∈ y.1.weights Tryz.prog 36 := by
  rcases open_strings Tryz.underlying36 Tryz.underlying9 (by kernel_rfl) hf with ⟨h0, _⟩ | ⟨a', len', cap', ss, hcs, _, hl, hmx, hz, hd, hcell, hw⟩
  · simp at h0
    subst h0
    exact ⟨[], ⟨none, 0, 0, rfl, rfl, Nat.le_refl _, by omega, .inl rfl⟩, fun t ht => by cases ht⟩
  · simp only [List.cons.injEq, and_true] at hcs
    subst hcs
    have hz' : ss.length = cap' := by rw [hz]; simp
    refine ⟨(ss.take len').map bytes, ⟨_, len', cap', rfl, by rw [List.length_map, List.length_take]; omega, hl, by unfold maxLen at hmx; omega, ?_⟩, ?_⟩
    · by_cases h0 : len' = 0
      · subst h0; exact .inl rfl
      right
      obtain ⟨b, off, spot⟩ := a'
      have hs0 := hcell 0 (by omega)
      have hspot : spot = none := by simpa [Addr.add] using World.cell?_spot hs0
      subst hspot
      refine ⟨b, off, rfl, World.block_lt_of_cell? w ((⟨b, off, none⟩ : Addr).add 0) hs0, fun i t ht => ?_⟩
      rw [List.getElem?_map] at ht
      by_cases hi : i < len'
      · rw [List.getElem?_take_of_lt hi, List.getElem?_eq_getElem (show i < ss.length by omega)] at ht
        obtain rfl := Option.some.inj ht
        have := hcell i (by omega)
        rw [Go.WideShapes.add_plain] at this
        rw [this]
        have e : ss.getD i ByteArray.empty = ss[i]'(by omega) := by simp [List.getD, List.getElem?_eq_getElem (show i < ss.length by omega)]
        rw [e]
      · rw [List.getElem?_eq_none (by rw [List.length_take]; omega)] at ht; cases ht
    · intro t ht
      obtain ⟨s, hs, rfl⟩ := List.mem_map.1 ht
      rw [hd, blen]
      simp only [DataW.weights, Tryz.underlying36, List.mem_cons, List.mem_append]
      refine .inr (.inl (weightsAll_mem (d := .lit (.string s.data.toList)) (List.mem_map.2 ⟨s, hs, rfl⟩) _ ?_))
      rw [DataW.weights]
      simp

set_option maxRecDepth 100000 in
theorem open_reply {H : Type} {enc : TypeId × Value → H} {w : World} {r : Reach} {b0 : Nat} {v : Value} {d : DataW H} {p : List MemPlace} (hv : Value.okWide Tryz.prog w r b0 44 v) (h : DataW.Trod enc Tryz.prog w 0 (fun _ => true) true 44 v d p) :
    ∃ (err : Int) (tag : ByteArray) (tv : Value) (T : List Bs), v = .agg #[.int .i64 err, .string tag, tv] ∧ TextsIn w tv T ∧ tag.data.toList.length ∈ d.weights Tryz.prog 44 ∧ (∀ t ∈ T, t.length ∈ d.weights Tryz.prog 44) ∧ (-9223372036854775808 ≤ err ∧ err ≤ 9223372036854775807) := by
  obtain ⟨v0, v1, v2, y0, y1, y2, n, rfl, hd, _, h0, h1, h2⟩ := open_agg3 Tryz.underlying44 (by kernel_rfl) (by kernel_rfl) hv h
  obtain ⟨z, e0, _, wz⟩ := DataW.trod_int Tryz.underlying26 h0
  obtain ⟨z1, e1, hy1, _⟩ := DataW.trod_string Tryz.underlying9 h1
  simp at e0 e1
  subst e0 e1
  obtain ⟨T, hT, hw⟩ := open_textsG h2
  refine ⟨z, z1, v2, T, rfl, hT, ?_, fun t ht => ?_, int_range wz⟩
  · rw [hd, hy1]
    simp [DataW.weights, Tryz.underlying44, DataW.weightsEach]
  · have := hw t ht
    rw [hd]
    simp only [DataW.weights, Tryz.underlying44, DataW.weightsEach, List.map_cons, List.map_nil, List.mem_append]
    exact .inr (.inr (.inl this))

/-- What RenderAnswers lists. -/
abbrev laidA : List (String × DataW Unit) := [("math/bits.deBruijn32tab", Rows.laid_math_bits_deBruijn32tab), ("math/bits.deBruijn64tab", Rows.laid_math_bits_deBruijn64tab), ("internal/strconv.uint64pow10", Rows.laid_internal_strconv_uint64pow10), ("unicode/utf8.acceptRanges", Rows.laid_unicode_utf8_acceptRanges), ("taxirank/names.taken", Rows.laid_taxirank_names_taken), ("unicode/utf8.first", Rows.laid_unicode_utf8_first)]
set_option maxRecDepth 100000 in
theorem u10_of {W : World} (h : VarReads Tryz.prog W "internal/strconv.uint64pow10" Rows.laid_internal_strconv_uint64pow10) : U10 W := by
  obtain ⟨g, t, cs, f, p, hg, ht, hv, hd⟩ := h
  obtain rfl := Option.some.inj ((show Tryz.prog.globalNamed "internal/strconv.uint64pow10" = some 3 by kernel_rfl).symm.trans hg)
  obtain rfl := Option.some.inj ((show (Tryz.prog.globals[3]?).map (·.type) = some 171 by kernel_rfl).symm.trans ht)
  have hd' : DataW.trod (fun _ => ()) Tryz.prog W 0 (fun _ => true) false f 171 cs.toList = some (tabData .u64 Lib.pow10Tab, p) := hd
  unfold U10 TabIs
  rw [hv, ← cells_of_tab Tryz.underlying171 Tryz.underlying158 (by kernel_rfl) (by kernel_rfl) hd']
set_option maxRecDepth 100000 in
theorem taken_of_reads {W : World} (h : VarReads Tryz.prog W "taxirank/names.taken" Rows.laid_taxirank_names_taken) : TakenAt W := by
  obtain ⟨g1, t1, cs1, f1, p1, hg1, ht1, hv1, hd1⟩ := h
  obtain rfl := Option.some.inj ((show Tryz.prog.globalNamed "taxirank/names.taken" = some 1 by kernel_rfl).symm.trans hg1)
  obtain rfl := Option.some.inj ((show (Tryz.prog.globals[1]?).map (·.type) = some 126 by kernel_rfl).symm.trans ht1)
  obtain ⟨xs, m1, rfl, hx1, hlen, hn3, hel⟩ := DataW.trod_array Tryz.underlying126 hd1
  have c9 : Tryz.prog.cellsOf 9 = 1 := by kernel_rfl
  intro i x hx
  have hi : i < 10 := (List.getElem?_eq_some_iff.1 hx).1
  have hE := hel i hi
  rw [c9, Nat.mul_one, List.getElem?_eq_getElem (by omega)] at hE
  obtain ⟨z, e1, e2, _⟩ := DataW.trod_string Tryz.underlying9 hE
  have e3 : takenL.map (fun x => (DataW.lit (.string x) : DataW Unit)) = xs.map (·.1) := DataW.agg.inj (Prod.mk.inj hx1).1
  have e4 := congrArg (·[i]?) e3
  simp only [List.getElem?_map, hx, List.getElem?_eq_getElem (by omega : i < xs.length), Option.map_some, e2, Option.some.injEq, DataW.lit.injEq, Lit.string.injEq] at e4
  have hz : z = ⟨x.toArray⟩ := by rw [e4]
  rw [World.var?_cell hg1 hv1 i, ← hz]
  have h0 : ((cs1.toList.drop i).take 1)[0]? = some (.string z) := by rw [e1]; rfl
  simpa using h0
theorem taken_of_six {W : World} (h : laidMetH Tryz.prog laidA W) : TakenAt W := by
  rw [MakeChecks.laidMetH_plain _ _ _ (by kernel_rfl)] at h
  refine taken_of_reads (laidMet.reads h ?_)
  simp only [laidA, List.mem_cons, true_or, or_true]
theorem u10_of_six {W : World} (h : laidMetH Tryz.prog laidA W) : U10 W := by
  rw [MakeChecks.laidMetH_plain _ _ _ (by kernel_rfl)] at h
  refine u10_of (laidMet.reads h ?_)
  simp only [laidA, List.mem_cons, true_or, or_true]
end Go.Proofs.YtpijolcklmdjbaaGreatDoor
