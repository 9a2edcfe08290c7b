/- A law over the library's tables: the frame. -/
import Derived.Test.YtaalopiegabghaaGreatDoorFTab
import Derived.Test.YtaalopiegabghaaGreatDoorTie
import Derived.Test.YtaalopiegabghaaGreatDoorCards
import Derived.Lay
import Derived.LaidMore
import Derived.SevenTiedAt
import Derived.Stop.Joined
import Derived.HandedShaped
import Derived.SizedLaws
import Derived.ChangeSlices
import Derived.ChangeAlike
import Derived.OpenShut
import Derived.Lib.LaidU8
namespace Go.Proofs.YtaalopiegabghaaGreatDoor
open Go.RowKit Go.Lib Go.WideShapes Go.ChangeShapes Go.ChangeAt Go.Joins

/-- The listed data, and the world's shape, both at hand. -/
theorem handed_laid {H : Type} {enc : TypeId × Value → H} {C : Checked} {os : Os} {f : FuncId} {fn : Func} {s : ChangeSpec} {conds : List PathCond} {apart fresh handsOn again : Bool} {X : World → Array Value → Prop}
    (hX : ∀ (w w' : World) (args : Array Value), w.heap = w'.heap → X w args → X w' args) (own : ownKnob C.prog.godebug = none) (started : os.Started) (noInit : C.prog.inits.idxOf? f = none) (hfn : C.prog.funcs[f]? = some fn)
    (witness : ∃ (w : World) (tape : Tape) (i : Input), w.os = os ∧ (w.forCall tape i).Shaped C.prog ∧ i.vars = [] ∧ Input.okWide C.prog (w.forCall tape i) .any w.heap.size f i ∧
      ((s.pre enc C.prog fn conds apart (w.forCall tape i).memory i.args ∧ X (w.forCall tape i).memory i.args) ∧ sizedMet enc C.prog fn (OpenSpec.ofChange s) apart (w.forCall tape i).memory i.args) ∧ ({} : Assume).holds C.prog (lone (Frame.enter C.prog f i.args .normal) [] (w.forCall tape i)))
    (contract : ∀ (W : World) (base : Nat) (args : Array Value) (ds gs : List (DataW H)) (before : List MemPlace),
      (∀ (j : Nat) t v, fn.params[j]? = some t → args[j]? = some v → Value.okWide C.prog W .any base t v) → DataW.Whole enc C.prog fn.params.toList s.vars apart W args.toList ds gs before →
      (DataW.weightsEach C.prog (fn.params.toList ++ s.plain.varTypes C.prog) (ds ++ gs)).all (· ≤ reachBytes) = true → W.ShapedOpen C.prog → X W args →
      Calls C.prog f args W fun e W' => ∃ v, e = .returned v ∧ s.post enc C.prog fn apart fresh handsOn again W args v W') :
    ReturnsInHanded {} C os f .any (fun w args => (s.pre enc C.prog fn conds apart w args ∧ X w args) ∧ sizedMet enc C.prog fn (OpenSpec.ofChange s) apart w args) (s.post enc C.prog fn apart fresh handsOn again) := by
  refine returnsInHanded_of_calls own started noInit witness fun w tape i _ hsh _ hok hpre _ => ?_
  obtain ⟨_, _, _, fn', hfn', _, _, _, _, hval⟩ := hok
  obtain rfl : fn' = fn := Option.some.inj (hfn'.symm.trans hfn)
  obtain ⟨⟨⟨ds, gs, before, hw, _⟩, hx⟩, hz⟩ := hpre
  refine (contract (w.forCall tape i) w.heap.size i.args ds gs before hval (DataW.Whole.of_heap (w' := w.forCall tape i) (by rfl) hw) (hz.weights hw) hsh (hX _ _ _ (by rfl) hx)).mono ?_
  rintro e W' ⟨v, rfl, hp⟩
  exact ChangeSpec.post_blind hp


theorem size_list (s : ByteArray) : s.data.toList.length = s.size := by simp

/-- What the rows list. -/
abbrev laidL : List (String × DataW Unit) := [("math/bits.deBruijn32tab", Rows.laid_math_bits_deBruijn32tab), ("math/bits.deBruijn64tab", Rows.laid_math_bits_deBruijn64tab), ("internal/strconv.float32info", Rows.laid_internal_strconv_float32info), ("internal/strconv.float64info", Rows.laid_internal_strconv_float64info), ("internal/strconv.optimize", Rows.laid_internal_strconv_optimize), ("internal/strconv.powtab", Rows.laid_internal_strconv_powtab), ("internal/strconv.float64pow10", Rows.laid_internal_strconv_float64pow10), ("internal/strconv.float32pow10", Rows.laid_internal_strconv_float32pow10), ("internal/strconv.uint64pow10", Rows.laid_internal_strconv_uint64pow10), ("unicode/utf8.acceptRanges", Rows.laid_unicode_utf8_acceptRanges), ("strconv.ErrRange", Rows.laid_strconv_ErrRange), ("strconv.ErrSyntax", Rows.laid_strconv_ErrSyntax), ("internal/strconv.leftcheats", Rows.laid_internal_strconv_leftcheats), ("internal/strconv.pow10Tab", Rows.laid_internal_strconv_pow10Tab), ("unicode/utf8.first", Rows.laid_unicode_utf8_first)]

section
variable {H : Type} {enc : TypeId × Value → H} {P : Program} {w : World} {base : Nat} {spare : Nat → Bool} {held : Bool} {fuel m : Nat} {t : TypeId} {cs : List Value} {x : DataW H × List MemPlace}
theorem trod_float {k : FloatKind} (ht : P.underlying t = some (.float k)) (h : DataW.trod enc P w base spare held fuel t cs = some x) : ∃ n, cs = [.float k n] ∧ x = (.lit (.float k n), []) := by
  cases fuel with
  | zero => simp [DataW.trod] at h
  | succ n =>
    unfold DataW.trod at h
    rw [ht] at h
    split at h <;> simp_all
end

theorem cells_one {w : World} {base : Nat} {a : Addr} {v : Value} (h : w.cells? base a 1 = some [v]) : w.cell? a = some v := by
  unfold World.cells? at h
  split at h
  · have : List.range 1 = [0] := rfl
    rw [this] at h
    have e : a.add 0 = a := by obtain ⟨b, o, sp⟩ := a; cases sp <;> simp [Addr.add]
    simp only [List.mapM_cons, List.mapM_nil, e, Option.pure_def, Option.bind_eq_bind] at h
    cases hc : w.cell? a with
    | none => rw [hc] at h; cases h
    | some u => rw [hc] at h; injection h with h; injection h with h; rw [h]
  · cases h

set_option maxRecDepth 100000 in
theorem opt_of {W : World} (h : VarReads Tryz.prog W "internal/strconv.optimize" Rows.laid_internal_strconv_optimize) : W.cell? ⟨3, 0, none⟩ = some (.bool true) := by
  obtain ⟨g, t, cs, f, p, hg, ht, hv, hd⟩ := h
  obtain rfl := Option.some.inj ((show Tryz.prog.globalNamed "internal/strconv.optimize" = some 3 by kernel_rfl).symm.trans hg)
  obtain rfl := Option.some.inj ((show (Tryz.prog.globals[3]?).map (·.type) = some 4 by kernel_rfl).symm.trans ht)
  obtain ⟨b, hc, hx⟩ := DataW.trod_bool Tryz.underlying4 hd
  have hb : true = b := by injection hx with e _; injection e with e; injection e
  subst hb
  rw [World.var?_cell hg hv 0, ← Array.getElem?_toList, hc]; rfl

set_option maxRecDepth 100000 in
theorem mant_of {W : World} (h : VarReads Tryz.prog W "internal/strconv.float64info" Rows.laid_internal_strconv_float64info) : W.cell? ⟨6, 0, none⟩ = some (.int .u64 52) := by
  obtain ⟨g, t, cs, f, p, hg, ht, hv, hd⟩ := h
  obtain rfl := Option.some.inj ((show Tryz.prog.globalNamed "internal/strconv.float64info" = some 6 by kernel_rfl).symm.trans hg)
  obtain rfl := Option.some.inj ((show (Tryz.prog.globals[6]?).map (·.type) = some 133 by kernel_rfl).symm.trans ht)
  obtain ⟨xs, n, rfl, hx, hl, hxl, hall⟩ := DataW.trod_struct Tryz.underlying133 hd
  have h1 := hall 0 _ rfl
  have hxs : xs.map (·.1) = [(.lit (.int .u64 52) : DataW Unit), .lit (.int .u64 11), .lit (.int .i64 (-1023))] := by injection hx with e _; injection e with e; exact e.symm
  obtain ⟨b, hb⟩ : ∃ b, xs[0]? = some b := by
    cases xs with
    | nil => cases hxs
    | cons b l => exact ⟨b, rfl⟩
  rw [hb] at h1
  obtain ⟨z, hcz, hz, _⟩ := DataW.trod_int Tryz.underlying121 h1
  have h3 : (xs.map (·.1))[0]? = some b.1 := by simp [hb]
  rw [hxs, hz] at h3
  have hz2 : (52 : Int) = z := by injection h3 with e; injection e with e; injection e
  subst hz2
  have c1 : Tryz.prog.cellsOf 121 = 1 := by kernel_rfl
  rw [World.var?_cell hg hv 0, ← Array.getElem?_toList]
  have hc2 : (cs.toList.drop 0).take (Tryz.prog.cellsOf 121) = [Value.int .u64 52] := hcz
  rw [c1] at hc2
  have := congrArg (·[0]?) hc2
  simpa [List.getElem?_take, List.getElem?_drop] using this

set_option maxRecDepth 100000 in
theorem ten_bits : [4607182418800017408, 4621819117588971520, 4636737291354636288, 4652007308841189376, 4666723172467343360, 4681608360884174848, 4696837146684686336, 4711630319722168320, 4726483295884279808, 4741671816366391296, 4756540486875873280, 4771362005757984768, 4786511204640096256, 4801453603149578240, 4816244402031689728, 4831355200913801216, 4846369599423283200, 4861130398305394688, 4876203697187506176, 4891288408196988160, 4906019910204099648, 4921056587992461136, 4936209963552724370] = [1, 10, 100, 1000, 10000, 100000, 1000000, 10000000, 100000000, 1000000000, 10000000000, 100000000000, 1000000000000, 10000000000000, 100000000000000, 1000000000000000, 10000000000000000, 100000000000000000, 1000000000000000000, 10000000000000000000, 100000000000000000000, 1000000000000000000000, 10000000000000000000000].map fun (u : Nat) => Ieee.double.write (.number false u 0) := by decide +kernel
set_option maxRecDepth 100000 in
theorem ten_of {W : World} (h : VarReads Tryz.prog W "internal/strconv.float64pow10" Rows.laid_internal_strconv_float64pow10) : ∃ b o c, W.cell? ⟨10, 0, none⟩ = some (.slice (some ⟨b, o, none⟩) 23 c) ∧ ∀ p, p ≤ 6 → W.cell? ⟨b, o + p, none⟩ = some (.float .f64 (Ieee.double.write (.number false (10 ^ p) 0))) := by
  obtain ⟨g, t, cs, f, p, hg, ht, hv, hd⟩ := h
  obtain rfl := Option.some.inj ((show Tryz.prog.globalNamed "internal/strconv.float64pow10" = some 10 by kernel_rfl).symm.trans hg)
  obtain rfl := Option.some.inj ((show (Tryz.prog.globals[10]?).map (·.type) = some 173 by kernel_rfl).symm.trans ht)
  have c1 : Tryz.prog.cellsOf 43 = 1 := by kernel_rfl
  rcases DataW.trod_slice Tryz.underlying173 hd with ⟨_, hx⟩ | ⟨a, len, cap, elems, rest, n, rfl, hc, hx, _, _, _, hel, hall, _, _⟩
  · exact absurd (congrArg Prod.fst hx) (by unfold Rows.laid_internal_strconv_float64pow10; intro e; cases e)
  have hxs : elems.map (·.1) = [1, 10, 100, 1000, 10000, 100000, 1000000, 10000000, 100000000, 1000000000, 10000000000, 100000000000, 1000000000000, 10000000000000, 100000000000000, 1000000000000000, 10000000000000000, 100000000000000000, 1000000000000000000, 10000000000000000000, 100000000000000000000, 1000000000000000000000, 10000000000000000000000].map fun (u : Nat) => (.lit (.float .f64 (Ieee.double.write (.number false u 0))) : DataW Unit) := by
    have e := congrArg Prod.fst hx
    injection e with e _
    have e2 := congrArg (List.map fun (b : Nat) => (DataW.lit (.float .f64 b) : DataW Unit)) ten_bits
    rw [List.map_map] at e2
    exact e.symm.trans e2
  have hlen : elems.length = 23 := by have := congrArg List.length hxs; simpa using this
  have h23 : len = 23 := by omega
  subst h23
  have cell : ∀ i, i ≤ 6 → W.cell? (a.add i) = some (.float .f64 (Ieee.double.write (.number false (10 ^ i) 0))) := by
    intro i hi
    have h1 := hall i (by omega)
    obtain ⟨y, hy⟩ : ∃ y, elems[i]? = some y := ⟨elems[i]'(by omega), List.getElem?_eq_getElem (by omega)⟩
    rw [c1, Nat.mul_one, hy] at h1
    obtain ⟨vs, hvs, ht2⟩ := Option.bind_eq_some_iff.1 h1
    obtain ⟨z, rfl, hz⟩ := trod_float Tryz.underlying43 ht2
    have h3 : (elems.map (·.1))[i]? = some y.1 := by simp [hy]
    rw [hxs, hz] at h3
    have hz2 : Ieee.double.write (.number false (10 ^ i) 0) = z := by
      rcases (by omega : i = 0 ∨ i = 1 ∨ i = 2 ∨ i = 3 ∨ i = 4 ∨ i = 5 ∨ i = 6) with rfl | rfl | rfl | rfl | rfl | rfl | rfl <;> (injection h3 with e; injection e with e; injection e)
    rw [hz2]
    exact cells_one hvs
  obtain ⟨b, o, sp⟩ := a
  have hs : sp = none := cell_spot (b := b) (o := o + 0) (cell 0 (by omega))
  subst hs
  refine ⟨b, o, cap, ?_, fun i hi => by rw [← WideShapes.add_plain b o i]; exact cell i hi⟩
  rw [World.var?_cell hg hv 0, ← Array.getElem?_toList, hc]; rfl

set_option maxRecDepth 100000 in
theorem u10_of {W : World} (h : VarReads Tryz.prog W "internal/strconv.uint64pow10" Rows.laid_internal_strconv_uint64pow10) : Lib.TabIs Tryz.prog W "internal/strconv.uint64pow10" .u64 Lib.pow10Tab := by
  obtain ⟨g, t, cs, f, p, hg, ht, hv, hd⟩ := h
  obtain rfl := Option.some.inj ((show Tryz.prog.globalNamed "internal/strconv.uint64pow10" = some 7 by kernel_rfl).symm.trans hg)
  obtain rfl := Option.some.inj ((show (Tryz.prog.globals[7]?).map (·.type) = some 162 by kernel_rfl).symm.trans ht)
  have hd' : DataW.trod (fun _ => ()) Tryz.prog W 0 (fun _ => true) false f 162 cs.toList = some (tabData .u64 Lib.pow10Tab, p) := hd
  unfold TabIs
  rw [hv, ← cells_of_tab Tryz.underlying162 Tryz.underlying69 (by kernel_rfl) (by kernel_rfl) hd']

set_option maxRecDepth 100000 in
theorem p10_of {W : World} (h : VarReads Tryz.prog W "internal/strconv.pow10Tab" Rows.laid_internal_strconv_pow10Tab) : ∀ p, 7 ≤ p → p ≤ 22 → W.cell? ⟨11, (p + 348) * 2, none⟩ = some (.int .u64 (tenHi p : Nat)) ∧ W.cell? ⟨11, (p + 348) * 2 + 1, none⟩ = some (.int .u64 0) := by
  obtain ⟨g, t, cs, f, q, hg, ht, hv, hd⟩ := h
  obtain rfl := Option.some.inj ((show Tryz.prog.globalNamed "internal/strconv.pow10Tab" = some 11 by kernel_rfl).symm.trans hg)
  obtain rfl := Option.some.inj ((show (Tryz.prog.globals[11]?).map (·.type) = some 180 by kernel_rfl).symm.trans ht)
  have hds : ∀ p, 7 ≤ p → p ≤ 22 → (Go.Pinned.pow10Rows.map fun x => (.agg [.lit (.int .u64 x.1), .lit (.int .u64 x.2)] : DataW Unit))[p + 348]? = some (.agg ([(tenHi p : Int), 0].map fun z => .lit (.int .u64 z))) := by
    intro p h1 h2
    rcases (by omega : p = 7 ∨ p = 8 ∨ p = 9 ∨ p = 10 ∨ p = 11 ∨ p = 12 ∨ p = 13 ∨ p = 14 ∨ p = 15 ∨ p = 16 ∨ p = 17 ∨ p = 18 ∨ p = 19 ∨ p = 20 ∨ p = 21 ∨ p = 22) with rfl | rfl | rfl | rfl | rfl | rfl | rfl | rfl | rfl | rfl | rfl | rfl | rfl | rfl | rfl | rfl <;> kernel_rfl
  intro p h1 h2
  have hd' : DataW.trod (fun _ => ()) Tryz.prog W 0 (fun _ => true) false f 180 cs.toList = some (.agg (Go.Pinned.pow10Rows.map fun x => (.agg [.lit (.int .u64 x.1), .lit (.int .u64 x.2)] : DataW Unit)), q) := hd
  obtain ⟨f', d, q', hdd, htr⟩ := array_elem Tryz.underlying180 hd' (p + 348) (by omega)
  rw [hds p h1 h2] at hdd
  obtain rfl := Option.some.inj hdd
  have c2 : Tryz.prog.cellsOf 179 = 2 := by kernel_rfl
  rw [c2] at htr
  have hcs := ints_of_struct Tryz.underlying179 (k := .u64) (fun i f hf => by
    match i, hf with
    | 0, hf => obtain rfl := Option.some.inj hf; exact ⟨Tryz.underlying69, rfl, by kernel_rfl⟩
    | 1, hf => obtain rfl := Option.some.inj hf; exact ⟨Tryz.underlying69, rfl, by kernel_rfl⟩
    | n + 2, hf => cases hf) c2 htr
  have g0 := congrArg (·[0]?) hcs
  have g1 := congrArg (·[1]?) hcs
  simp only [List.getElem?_take, List.getElem?_drop] at g0 g1
  rw [World.var?_cell hg hv, World.var?_cell hg hv, ← Array.getElem?_toList, ← Array.getElem?_toList]
  exact ⟨by simpa using g0, by simpa using g1⟩

set_option maxRecDepth 100000 in
/-- The tables, out of what the row lists. -/
theorem tabs_of_laid {W : World} (hm : ∃ m, W.cell? ⟨4, 0, none⟩ = some (.int .i64 m)) (h : laidMetH Tryz.prog laidL W) : Tabs W := by
  rw [MakeChecks.laidMetH_plain _ _ _ (by kernel_rfl)] at h
  refine ⟨opt_of (laidMet.reads h ?_), mant_of (laidMet.reads h ?_), ten_of (laidMet.reads h ?_), u10_of (laidMet.reads h ?_), p10_of (laidMet.reads h ?_), hm⟩
  all_goals simp only [laidL, List.mem_cons, true_or, or_true]
end Go.Proofs.YtaalopiegabghaaGreatDoor
