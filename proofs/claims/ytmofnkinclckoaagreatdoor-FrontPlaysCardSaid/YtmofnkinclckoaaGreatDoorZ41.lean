/- Contracts and mathematics: DCard, KOpen, KRow, KFeedS, YStates. -/
import Derived.Test.YtmofnkinclckoaaGreatDoorZ18
import Derived.Test.YtmofnkinclckoaaGreatDoorTie
import Derived.Test.YtmofnkinclckoaaGreatDoorCards
import Derived.Lay
import Derived.LaidMore
import Derived.SevenTiedAt
import Derived.Stop.Joined
import Derived.HandedShaped
import Derived.SizedLaws
import Derived.ChangeSlices
import Derived.ChangeAlike
import Derived.OpenShut
import Derived.Test.YtmofnkinclckoaaGreatDoorZ40
namespace Go.Proofs.YtmofnkinclckoaaGreatDoor
open Go.RowKit Go.Lib Go.WideShapes Go.ChangeShapes Go.ChangeAt Go.Joins

/-- The listed data, and the world's shape, both at hand. -/
theorem handed_laid {H : Type} {enc : TypeId × Value → H} {C : Checked} {os : Os} {f : FuncId} {fn : Func} {s : ChangeSpec} {conds : List PathCond} {apart fresh handsOn again : Bool} {X : World → Array Value → Prop}
    (hX : ∀ (w w' : World) (args : Array Value), w.heap = w'.heap → X w args → X w' args) (own : ownKnob C.prog.godebug = none) (started : os.Started) (noInit : C.prog.inits.idxOf? f = none) (hfn : C.prog.funcs[f]? = some fn)
    (witness : ∃ (w : World) (tape : Tape) (i : Input), w.os = os ∧ (w.forCall tape i).Shaped C.prog ∧ i.vars = [] ∧ Input.okWide C.prog (w.forCall tape i) .any w.heap.size f i ∧
      ((s.pre enc C.prog fn conds apart (w.forCall tape i).memory i.args ∧ X (w.forCall tape i).memory i.args) ∧ sizedMet enc C.prog fn (OpenSpec.ofChange s) apart (w.forCall tape i).memory i.args) ∧ ({} : Assume).holds C.prog (lone (Frame.enter C.prog f i.args .normal) [] (w.forCall tape i)))
    (contract : ∀ (W : World) (base : Nat) (args : Array Value) (ds gs : List (DataW H)) (before : List MemPlace),
      (∀ (j : Nat) t v, fn.params[j]? = some t → args[j]? = some v → Value.okWide C.prog W .any base t v) → DataW.Whole enc C.prog fn.params.toList s.vars apart W args.toList ds gs before →
      (DataW.weightsEach C.prog (fn.params.toList ++ s.plain.varTypes C.prog) (ds ++ gs)).all (· ≤ reachBytes) = true → W.ShapedOpen C.prog → X W args →
      Calls C.prog f args W fun e W' => ∃ v, e = .returned v ∧ s.post enc C.prog fn apart fresh handsOn again W args v W') :
    ReturnsInHanded {} C os f .any (fun w args => (s.pre enc C.prog fn conds apart w args ∧ X w args) ∧ sizedMet enc C.prog fn (OpenSpec.ofChange s) apart w args) (s.post enc C.prog fn apart fresh handsOn again) := by
  refine returnsInHanded_of_calls own started noInit witness fun w tape i _ hsh _ hok hpre _ => ?_
  obtain ⟨_, _, _, fn', hfn', _, _, _, _, hval⟩ := hok
  obtain rfl : fn' = fn := Option.some.inj (hfn'.symm.trans hfn)
  obtain ⟨⟨⟨ds, gs, before, hw, _⟩, hx⟩, hz⟩ := hpre
  refine (contract (w.forCall tape i) w.heap.size i.args ds gs before hval (DataW.Whole.of_heap (w' := w.forCall tape i) (by rfl) hw) (hz.weights hw) hsh (hX _ _ _ (by rfl) hx)).mono ?_
  rintro e W' ⟨v, rfl, hp⟩
  exact ChangeSpec.post_blind hp
end Go.Proofs.YtmofnkinclckoaaGreatDoor

namespace Go.Proofs.YtmofnkinclckoaaGreatDoor
open Go.RowKit Go.Lib Go.WideShapes Go.ChangeShapes Go.ChangeAt Go.Joins

/-- The integers that lie from place off of block b on. -/
def IntsAt (w : World) (b off n : Nat) (c : Nat → Int) : Prop := ∀ i, i < n → w.cell? ⟨b, off + i, none⟩ = some (.int .i64 (c i))

/-- An argument that is a slice of integers, opened to its cells. -/
theorem open_row {H : Type} {enc : TypeId × Value → H} {w : World} {a : Option Addr} {len cap : Nat} {d : DataW H} {p : List MemPlace} (h : DataW.Trod enc Tryz.prog w 0 (fun _ => true) true 34 (.slice a len cap) d p) :
    ∃ c : Nat → Int, (∀ i, i < len → -9223372036854775808 ≤ c i ∧ c i ≤ 9223372036854775807) ∧ (len = 0 ∨ ∃ b off, a = some ⟨b, off, none⟩ ∧ b < w.heap.size ∧ IntsAt w b off len c) := by
  obtain ⟨fuel, hf⟩ := h
  have hf' : DataW.trod enc Tryz.prog w 0 (fun _ => true) true fuel 34 [.slice a len cap] = some (d, p) := by simpa [Value.cells] using hf
  rcases open_ints Tryz.underlying34 Tryz.underlying3 (by kernel_rfl) hf' with ⟨h0, _⟩ | ⟨a', len', cap', zs, hcs, _, hl, _, hz, _, hcell, hw⟩
  · refine ⟨fun _ => 0, fun _ _ => by simp, .inl ?_⟩
    simp at h0; exact h0.2.1
  · simp only [List.cons.injEq, Value.slice.injEq, and_true] at hcs
    obtain ⟨rfl, rfl, rfl⟩ := hcs
    have hlz : len ≤ zs.length := by rw [hz]; simp; exact hl
    refine ⟨fun i => zs.getD i 0, fun i hi => int_range (hw _ ?_), ?_⟩
    · have e : zs.getD i 0 = zs[i]'(by omega) := by simp [List.getD, List.getElem?_eq_getElem (show i < zs.length by omega)]
      show zs.getD i 0 ∈ zs
      rw [e]; exact List.getElem_mem _
    · by_cases h0 : len = 0
      · exact .inl h0
      right
      obtain ⟨b, off, rfl, hc⟩ := ints_at hcell (by omega)
      exact ⟨b, off, rfl, World.block_lt_of_cell? w (⟨b, off + 0, none⟩ : Addr) (hc 0 (by omega)), fun i hi => hc i (by omega)⟩


/-- A front that is over is fed. -/
theorem feed_over (p : Nat) (b : Bool) (x : ByteArray) (w : World) (h : FCell w p (.pointer none) b) :
    Calls Tryz.prog 6 #[.pointer (some ⟨p, 0, none⟩), .string x] w fun e w' => e = .returned (.slice none 0 0) ∧ w = w' := by
  have HOV := Lib.hid (over_yes p b w h)
  clear h
  go_enter Tryz.func6, Tryz.ntmps6
  go_wp2_with fail
  refine HOV.out.mono ?_; rintro e w1 ⟨rfl, rfl⟩
  go_wp2_with fail
  go_loopw [5] (fun tv wr => tv = .slice none 0 0 ∧ wr = w) (fun _ _ => 0)
  case atStart => exact ⟨rfl, rfl⟩
  case round =>
    obtain ⟨rfl, rfl⟩ := hrel
    go_wp2_with fail
    refine HOV.out.mono ?_; rintro e w1 ⟨rfl, rfl⟩
    go_wp2_with fail
    go_ret
    exact ⟨rfl, rfl⟩
/-- A first message behind the first one is nothing. -/
theorem again_u : KTold (startK uT) true [wrongEv c_bytes] none := by
  obtain ⟨B, h, hl⟩ : ∃ B : Bs, written false 0 uT [196608, (uT.length : Int)] = some B ∧ B = [0, 3, 0, 0, 117, 115, 101, 114, 0, 117, 0, 0] := ⟨_, rfl, by decide⟩
  subst hl
  have e : startK uT = { data := #[0, 0, 0, 16, 0, 3, 0, 0, 117, 115, 101, 114, 0, 117, 0, 0] } := by
    unfold startK
    rw [h, bodyK_some (by decide)]
    rfl
  have h2 : frameE (startK uT) (!true) = 2 := by rw [e]; decide
  exact KTold.wrong (by rw [h2]; decide) (by rw [h2]; decide)
end Go.Proofs.YtmofnkinclckoaaGreatDoor

namespace Go.Proofs.YtmofnkinclckoaaGreatDoor
open Go.RowKit Go.Lib Go.WideShapes

/-- The cells of an event, but for its numbers. -/
def EvC (ys : List Value) (i : Nat) (E : Ev) : Prop := ys[i * 5]? = some (.int .u8 (E.k.toNat : Nat)) ∧ ys[i * 5 + 1]? = some (.string ⟨E.u.toArray⟩) ∧ ys[i * 5 + 2]? = some (.string ⟨E.d.toArray⟩) ∧ ys[i * 5 + 3]? = some (.string ⟨E.t.toArray⟩)
def KRow (w : World) (B : Nat) (v : Value) (L : List Ev) : Prop := ∃ xs, w.ownsRow B 38 5 v L.length xs ∧ (∀ i E, L[i]? = some E → EvC xs i E) ∧ ∀ u ∈ xs, u.oneCell' = true
theorem EvRow.k {w : World} {B : Nat} {v : Value} {L : List Ev} (h : EvRow w B v L) : KRow w B v L := by
  obtain ⟨xs, hO, hX⟩ := h
  refine ⟨xs, hO, fun i E hi => ?_, fun u hu => ?_⟩
  · obtain ⟨sl, c0, c1, c2, c3, _⟩ := hX i E hi
    exact ⟨c0, c1, c2, c3⟩
  · obtain ⟨k, hk, rfl⟩ := List.mem_iff_getElem.1 hu
    have hl := hO.1
    have hi : k / 5 < L.length := by omega
    obtain ⟨sl, c0, c1, c2, c3, c4, b, m, d, rfl, _⟩ := hX (k / 5) _ (List.getElem?_eq_getElem hi)
    have hx : ∀ r y, k = k / 5 * 5 + r → xs[k / 5 * 5 + r]? = some y → y.oneCell' = true → (xs[k]).oneCell' = true := fun r y hr h1 h2 => by
      have h3 : xs[k]? = some y := by rw [← h1, ← hr]
      rw [List.getElem?_eq_getElem hk] at h3
      rw [Option.some.inj h3]; exact h2
    rcases (by omega : k % 5 = 0 ∨ k % 5 = 1 ∨ k % 5 = 2 ∨ k % 5 = 3 ∨ k % 5 = 4) with e | e | e | e | e
    · exact hx 0 _ (by omega) c0 rfl
    · exact hx 1 _ (by omega) c1 rfl
    · exact hx 2 _ (by omega) c2 rfl
    · exact hx 3 _ (by omega) c3 rfl
    · exact hx 4 _ (by omega) c4 rfl
theorem KRow.nil (w : World) (B : Nat) : KRow w B (.slice none 0 0) [] := ⟨[], ⟨rfl, .inl ⟨rfl, rfl⟩⟩, fun i E h => (by cases h), fun u h => (by cases h)⟩
theorem KRow.form {w : World} {B : Nat} {v : Value} {L : List Ev} (h : KRow w B v L) : ∃ a c, v = .slice a L.length c := by
  obtain ⟨xs, hO, _⟩ := h
  exact ownsRow_form hO
theorem KRow.kept {w w' : World} {B : Nat} {v : Value} {L : List Ev} (h : KRow w B v L) (hw : ∀ k, v.ownBlock = some k → w'.heap[k]? = w.heap[k]?) : KRow w' B v L := by
  obtain ⟨xs, hO, hX, hc⟩ := h
  exact ⟨xs, ⟨hO.1, hO.2.imp id fun ⟨g, cap, cur, e1, e2, e3, e4⟩ => ⟨g, cap, cur, e1, e2, (hw g (by rw [e1]; rfl)).trans e3, e4⟩⟩, hX, hc⟩
theorem KRow.lt {w : World} {B : Nat} {v : Value} {L : List Ev} (h : KRow w B v L) : ∀ k, v.ownBlock = some k → B ≤ k ∧ k < w.heap.size := by
  obtain ⟨xs, hO, _⟩ := h
  exact hO.lt
theorem KRow.grown {w w' : World} {B : Nat} {v : Value} {L : List Ev} (h : KRow w B v L) (hb : Below w.heap.size w w') : KRow w' B v L := h.kept (fun k hk => hb.block k (h.lt k hk).2)
theorem KRow.apart {w : World} {B p : Nat} {v u : Value} {L : List Ev} {s : ByteArray} (h : KRow w B v L) (hu : OwnB w 5 p u s) : ∀ k, v.ownBlock = some k → some k ≠ u.ownBlock := by
  obtain ⟨xs, hO, _⟩ := h
  exact rows_apart hO hu (by decide)
theorem KRow.read {w : World} {B : Nat} {v : Value} {L : List Ev} (h : KRow w B v L) (h0 : L ≠ []) : ∃ g c, v = .slice (some ⟨g, 0, none⟩) L.length c ∧ L.length ≤ c ∧ B ≤ g ∧ g < w.heap.size ∧ ∀ i E, L[i]? = some E → w.cell? ⟨g, i * 5, none⟩ = some (.int .u8 (E.k.toNat : Nat)) ∧ w.cell? ⟨g, i * 5 + 1, none⟩ = some (.string ⟨E.u.toArray⟩) ∧ w.cell? ⟨g, i * 5 + 2, none⟩ = some (.string ⟨E.d.toArray⟩) ∧ w.cell? ⟨g, i * 5 + 3, none⟩ = some (.string ⟨E.t.toArray⟩) := by
  obtain ⟨xs, hO, hX, _⟩ := h
  rcases hO.2 with ⟨rfl, hz⟩ | ⟨g, cap, cur, rfl, hb, hg, hn, hrest⟩
  · exact absurd (List.eq_nil_of_length_eq_zero hz) h0
  · refine ⟨g, cap, rfl, hn, hb, (Array.getElem?_eq_some_iff.1 hg).1, fun i E hi => ?_⟩
    obtain ⟨c0, c1, c2, c3⟩ := hX i E hi
    have hc := hO.cells (g := g) rfl
    have a0 := hc _ _ c0
    have a1 := hc _ _ c1
    have a2 := hc _ _ c2
    have a3 := hc _ _ c3
    rw [Go.WideShapes.add_plain, Nat.zero_add] at a0 a1 a2 a3
    exact ⟨a0, a1, a2, a3⟩
/-- A row of events that another one is put behind. -/
theorem krow_append {w : World} {B C : Nat} {v tv : Value} {L M : List Ev} (h : KRow w B v L) (h2 : KRow w C tv M) (hn : L.length + M.length ≤ 1000000) (hB : B ≤ w.heap.size) :
    ∃ v' w', (Builtin.append_ #[29, 29] 29 #[v, tv]).run Tryz.prog w = .ok v' w' ∧ KRow w' B v' (L ++ M) ∧ w.grownBy w' v.ownBlock ∧ (∀ k, v'.ownBlock = some k → v.ownBlock = some k ∨ w.heap.size ≤ k) := by
  obtain ⟨iv, hiv, z0, z1, z2⟩ := info_parts info_event
  obtain ⟨xs, hO, hX, hc⟩ := h
  obtain ⟨ys, hP, hY, hd⟩ := h2
  have hEv : ∀ i E, (L ++ M)[i]? = some E → EvC (xs ++ ys) i E := by
    intro i E hi
    have hl := hO.1
    by_cases hlt : i < L.length
    · rw [List.getElem?_append_left hlt] at hi
      obtain ⟨c0, c1, c2, c3⟩ := hX i E hi
      exact ⟨by rw [List.getElem?_append_left (by omega)]; exact c0, by rw [List.getElem?_append_left (by omega)]; exact c1, by rw [List.getElem?_append_left (by omega)]; exact c2, by rw [List.getElem?_append_left (by omega)]; exact c3⟩
    · rw [List.getElem?_append_right (by omega)] at hi
      obtain ⟨c0, c1, c2, c3⟩ := hY _ E hi
      exact ⟨by rw [List.getElem?_append_right (by omega), show i * 5 - xs.length = (i - L.length) * 5 by omega]; exact c0, by rw [List.getElem?_append_right (by omega), show i * 5 + 1 - xs.length = (i - L.length) * 5 + 1 by omega]; exact c1, by rw [List.getElem?_append_right (by omega), show i * 5 + 2 - xs.length = (i - L.length) * 5 + 2 by omega]; exact c2, by rw [List.getElem?_append_right (by omega), show i * 5 + 3 - xs.length = (i - L.length) * 5 + 3 by omega]; exact c3⟩
  have hco : ∀ u ∈ xs ++ ys, u.oneCell' = true := fun u hu => (List.mem_append.1 hu).elim (hc u) (hd u)
  have hcells : ∀ g, tv.ownBlock = some g → ∀ j u, ys[j]? = some u → w.cell? ⟨g, j, none⟩ = some u := fun g hg j u hj => by
    rcases hP.2 with ⟨rfl, hz⟩ | ⟨g', cap, cur, rfl, hb, hg', hn', hrest⟩
    · cases hg
    · cases hg
      have := hP.cells (g := g') rfl j u hj
      rw [Go.WideShapes.add_plain, Nat.zero_add] at this
      exact this
  rcases hP.2 with ⟨rfl, hz⟩ | ⟨g, cap, cur, rfl, hb, hg, hn', hrest⟩
  · obtain rfl : M = [] := List.eq_nil_of_length_eq_zero hz
    obtain rfl : ys = [] := List.eq_nil_of_length_eq_zero (by rw [hP.1]; rfl)
    refine ⟨v, w, run_append_owned_none _ _ _ _ _ iv _ Tryz.underlying29 hiv _ _ _ hO, ⟨xs, by rw [List.append_nil]; exact hO, by simpa only [List.append_nil] using hEv, hc⟩, World.grownBy.refl _ _, fun k hk => .inl hk⟩
  · obtain ⟨v', w', hrun, h3, h4, h5⟩ := run_append_at (P := Tryz.prog) w B 29 29 38 iv (.agg #[.int .u8 0, .string { data := #[] }, .string { data := #[] }, .string { data := #[] }, .slice none 0 0]) 5 80 Tryz.underlying29 hiv z0 z1 z2 rfl (by decide) v L.length xs hO ⟨g, 0, none⟩ M.length cap ys hP.1 (fun j u hj => by
      rw [Go.WideShapes.add_plain, Nat.zero_add]
      exact hcells g rfl j u hj) hd (by unfold maxLen; omega) (by omega) hB
    exact ⟨v', w', hrun, ⟨xs ++ ys, by rw [List.length_append]; exact h3, hEv, hco⟩, h4, h5⟩
end Go.Proofs.YtmofnkinclckoaaGreatDoor

namespace Go.Proofs.YtmofnkinclckoaaGreatDoor
open Go.RowKit Go.Lib Go.WideShapes

theorem KTold.over_app {s : ByteArray} {b : Bool} {L : List Ev} {st : Option (ByteArray × Bool)} (h : KTold s b L st) (x : ByteArray) : st = none → KTold (s ++ x) b L none := by
  induction h with
  | more h => intro e; cases e
  | @wrong s b h h0 =>
    intro _
    exact KTold.wrong (by rw [frameE_app s x (!b) h]; exact h) (by rw [frameE_app s x (!b) h]; exact h0)
  | @last s b h hf =>
    intro _
    have e1 := frameEv_app x h
    have e3 := (frameE_app s x (!b) (by rw [h]; decide)).trans h
    rw [← e1] at hf
    have := KTold.last e3 hf
    rw [e1] at this
    exact this
  | @next s b L st h hf hr ih =>
    intro e
    have h3 := ih e
    have e1 := frameEv_app x h
    have e2 := frameR_app x h
    have e3 := (frameE_app s x (!b) (by rw [h]; decide)).trans h
    rw [← e2] at h3
    rw [← e1] at hf
    have := KTold.next e3 hf h3
    rw [e1] at this
    exact this
theorem KTold.size {s : ByteArray} {b : Bool} {L : List Ev} {st : Option (ByteArray × Bool)} (h : KTold s b L st) : L.length ≤ s.size + 1 ∧ ∀ s' b', st = some (s', b') → L.length + s'.size ≤ s.size := by
  induction h with
  | more h => exact ⟨by simp, fun s' b' e => by cases e; simp⟩
  | wrong h h0 => exact ⟨by simp, fun s' b' e => by cases e⟩
  | last h hf => exact ⟨by simp, fun s' b' e => by cases e⟩
  | @next s b L st h hf hr ih =>
    have := frameR_lt h
    refine ⟨by rw [List.length_cons]; have := ih.1; omega, fun s' b' e => ?_⟩
    have := ih.2 s' b' e
    rw [List.length_cons]
    omega
/-- What feeding changes. -/
structure TurnedS (w w' : World) (p q : Nat) (st : Option (ByteArray × Bool)) (row : Option Nat) : Prop where
  os : w'.os = w.os
  tape : w'.tape = w.tape
  output : w'.output = w.output
  size : w.heap.size ≤ w'.heap.size
  block : ∀ k, k < w.heap.size → k ≠ p → k ≠ q → (st ≠ none → some k ≠ row) → w'.heap[k]? = w.heap[k]?
theorem TurnedS.below {w w' : World} {p q : Nat} {st : Option (ByteArray × Bool)} {row : Option Nat} {B : Nat} (h : TurnedS w w' p q st row) (hB : B ≤ w.heap.size) (hp : B ≤ p) (hq : B ≤ q) (hr : ∀ k, row = some k → B ≤ k) : Below B w w' :=
  ⟨h.os, h.tape, h.output, h.size, fun k hk => h.block k (by omega) (by omega) (by omega) (fun _ e => by have := hr k e.symm; omega)⟩
theorem FSt.apart {w : World} {p q B : Nat} {v u : Value} {st : Option (ByteArray × Bool)} {L : List Ev} (h : FSt w p q v st) (hu : KRow w B u L) : ∀ k, u.ownBlock = some k → st ≠ none → some k ≠ v.ownBlock := by
  intro k hk hs
  cases st with
  | none => exact absurd rfl hs
  | some r =>
    obtain ⟨s, b⟩ := r
    exact hu.apart (show FIs w p q v s b from h).rd.own k hk
theorem KRow.turned {w w' : World} {p q B : Nat} {v u : Value} {st : Option (ByteArray × Bool)} {L : List Ev} (hu : KRow w B u L) (h : FSt w p q v st) (ht : TurnedS w w' p q st v.ownBlock) (hp : p < B) (hq : q < B) : KRow w' B u L :=
  hu.kept (fun k hk => ht.block k (hu.lt k hk).2 (by have := (hu.lt k hk).1; omega) (by have := (hu.lt k hk).1; omega) (h.apart hu k hk))
/-- A front lies apart from what grows. -/
theorem FSt.grownBy {w w' : World} {p q B : Nat} {v u : Value} {st : Option (ByteArray × Bool)} {L : List Ev} (h : FSt w p q v st) (hu : KRow w B u L) (hg : w.grownBy w' u.ownBlock) (hp : p < B) (hq : q < B) : FSt w' p q v st := by
  have hne : ∀ k, k < B → some k ≠ u.ownBlock := fun k hk e => by have := (hu.lt k e.symm).1; omega
  cases st with
  | none =>
    obtain ⟨b, hc⟩ := h
    exact ⟨b, hc.same (hg.block p hc.lt (hne p hp))⟩
  | some r =>
    obtain ⟨s, b⟩ := r
    have h : FIs w p q v s b := h
    have hv := hu.apart h.rd.own
    exact (show FIs w' p q v s b from ⟨h.cell.same (hg.block p h.cell.lt (hne p hp)), ⟨(hg.block q h.rd.lt (hne q hq)).trans h.rd.heap, h.rd.own.kept (fun k hk => hg.block k (h.rd.own.lt k hk) (fun e => hv k e.symm hk.symm))⟩, h.ne, h.row⟩)
theorem FSt.grown {w w' : World} {p q : Nat} {v : Value} {st : Option (ByteArray × Bool)} (h : FSt w p q v st) (hb : Below w.heap.size w w') : FSt w' p q v st := by
  cases st with
  | none => obtain ⟨b, hc⟩ := h; exact ⟨b, hc.same (hb.block p hc.lt)⟩
  | some r => obtain ⟨s, b⟩ := r; exact (show FIs w' p q v s b from FIs.grown (show FIs w p q v s b from h) hb)
theorem feed_st (p q : Nat) (v : Value) (x S : ByteArray) (b : Bool) (L : List Ev) (st : Option (ByteArray × Bool)) (w : World) (h : FSt w p q v st) (hk : KTold S b L st) (hx : S.size + x.size ≤ 1000000000) :
    Calls Tryz.prog 6 #[.pointer (some ⟨p, 0, none⟩), .string x] w fun e w' => ∃ tv L2 st2 v', e = .returned tv ∧ KRow w' w.heap.size tv L2 ∧ FSt w' p q v' st2 ∧ TurnedS w w' p q st v.ownBlock ∧ (∀ k, v'.ownBlock = some k → v.ownBlock = some k ∨ w.heap.size ≤ k) ∧ KTold (S ++ x) b (L ++ L2) st2 := by
  cases st with
  | none =>
    obtain ⟨b', hc⟩ := h
    refine (feed_over p b' x w hc).mono ?_
    rintro e w' ⟨rfl, rfl⟩
    exact ⟨_, [], none, v, rfl, KRow.nil _ _, ⟨b', hc⟩, ⟨rfl, rfl, rfl, Nat.le_refl _, fun k _ _ _ _ => rfl⟩, fun k hk => .inl hk, by rw [List.append_nil]; exact hk.over_app x rfl⟩
  | some r =>
    obtain ⟨s, b1⟩ := r
    have hs := hk.size.2 s b1 rfl
    refine (feedF_any p q v s x b1 w h (by omega)).mono ?_
    rintro e w' ⟨tv, L2, st2, v', rfl, h1, h2, h3, h4, h5⟩
    exact ⟨tv, L2, st2, v', rfl, h2.k, h3, ⟨h4.os, h4.tape, h4.output, h4.size, fun k hk hp hq hr => h4.block k hk hp hq (hr (by simp))⟩, h5, hk.fed rfl h1⟩
/-- Is a front over? -/
def overS (st : Option (ByteArray × Bool)) : Bool := st.isNone
theorem over_st (p q : Nat) (v : Value) (st : Option (ByteArray × Bool)) (w : World) (h : FSt w p q v st) :
    Calls Tryz.prog 8 #[.pointer (some ⟨p, 0, none⟩)] w fun e w' => e = .returned (.bool (overS st)) ∧ w = w' := by
  cases st with
  | none => obtain ⟨b, hc⟩ := h; exact over_yes p b w hc
  | some r => obtain ⟨s, b⟩ := r; exact over_no p q b w (show FIs w p q v s b from h).cell
theorem fin_parts {E : Ev} {ke : Int} (h : ke = (E.k.toNat : Nat)) : fin E = ((ke == 120) || (ke == 99) || (ke == 101)) := by
  unfold fin
  have h : ∀ c : UInt8, (E.k == c) = (ke == (c.toNat : Nat)) := fun c => by
    by_cases e : E.k = c
    · rw [h, e]; simp
    · rw [show (E.k == c) = false from by simpa using e]
      symm
      exact beq_false_of_ne (fun e9 => e (UInt8.toNat_inj.1 (by omega)))
  rw [h, h, h]; rfl
end Go.Proofs.YtmofnkinclckoaaGreatDoor

namespace Go.Proofs.YtmofnkinclckoaaGreatDoor
open Go.RowKit Go.Lib Go.WideShapes

theorem feed18_over (p : Nat) (s x : ByteArray) (b : Bool) (w : World) (h : DCell w p s b true) (hx : s.size + x.size ≤ 1000000000) :
    Calls Tryz.prog 7 #[.pointer (some ⟨p, 0, none⟩), .string x] w fun e w' => e = .returned (.slice none 0 0) ∧ w' = w.setCell ⟨p, 0, none⟩ (.string (s ++ x)) := by
  obtain ⟨c0, c1, c2⟩ := h.cell
  have g0 := h.frozen 0
  have hpw := h.lt
  obtain ⟨w1, hw1⟩ : ∃ z, z = w.setCell ⟨p, 0, none⟩ (.string (s ++ x)) := ⟨_, rfl⟩
  have hd1 : DCell w1 p (s ++ x) b true := by rw [hw1]; exact h.putS _
  have HE1 := Lib.hid hw1
  have HD1 := Lib.hid hd1
  have hsx : ¬ 9223372036854775807 < s.size + x.size := by omega
  rw [← hw1]
  clear h hw1 hd1
  go_enter Tryz.func7, Tryz.ntmps7
  go_upto_region 3 with (fail)
  rw [← HE1.out]
  clear c0 c1 c2 g0 hsx
  go_loopw [5] (fun tv wr => tv = .slice none 0 0 ∧ wr = w1) (fun _ _ => 0)
  case atStart => exact ⟨rfl, rfl⟩
  case round =>
    obtain ⟨rfl, rfl⟩ := hrel
    obtain ⟨c0, c1, c2⟩ := HD1.out.cell
    go_wp2_with fail
    go_ret
    exact ⟨rfl, rfl⟩
theorem DSt.more {w : World} {p n n' : Nat} {st : Option (ByteArray × Bool)} (h : DSt w p n st) (hn : n ≤ n') : DSt w p n' st := by
  cases st with
  | none => obtain ⟨s, b, h1, h2⟩ := h; exact ⟨s, b, h1, Nat.le_trans h2 hn⟩
  | some r => exact h
theorem DSt.same {w w' : World} {p n : Nat} {st : Option (ByteArray × Bool)} (h : DSt w p n st) (hb : w'.heap[p]? = w.heap[p]?) : DSt w' p n st := by
  cases st with
  | none => obtain ⟨s, b, h1, h2⟩ := h; exact ⟨s, b, h1.same hb, h2⟩
  | some r => exact (show DCell w p r.1 r.2 false from h).same hb
theorem DSt.lt {w : World} {p n : Nat} {st : Option (ByteArray × Bool)} (h : DSt w p n st) : p < w.heap.size := by
  cases st with
  | none => obtain ⟨s, b, h1, h2⟩ := h; exact h1.lt
  | some r => exact (show DCell w p r.1 r.2 false from h).lt
theorem DSt.over {w : World} {p n : Nat} {st : Option (ByteArray × Bool)} (h : DSt w p n st) : w.cell? ⟨p, 2, none⟩ = some (.bool (overS st)) := by
  cases st with
  | none => obtain ⟨s, b, h1, h2⟩ := h; exact h1.cell.2.2
  | some r => exact (show DCell w p r.1 r.2 false from h).cell.2.2
/-- The document's front lies in no row of bytes. -/
theorem DSt.apart {w : World} {p n q : Nat} {v : Value} {s : ByteArray} {st : Option (ByteArray × Bool)} (h : DSt w p n st) (ho : OwnB w 5 q v s) : some p ≠ v.ownBlock := by
  intro e
  have hp : ∃ A, w.heap[p]? = some (.cells A 28 (0, 0)) := by
    cases st with
    | none => obtain ⟨s, b, h1, h2⟩ := h; exact ⟨_, h1⟩
    | some r => exact ⟨_, (show DCell w p r.1 r.2 false from h)⟩
  obtain ⟨A, hA⟩ := hp
  rcases ho with ⟨rfl, _⟩ | ⟨g', o', cap', cur', rfl, _, h1, _⟩
  · simp [Value.ownBlock] at e
  · simp [Value.ownBlock] at e
    rw [← e, hA] at h1
    simp at h1
theorem feed18_st (p : Nat) (x S : ByteArray) (b : Bool) (L : List Ev) (st : Option (ByteArray × Bool)) (w : World) (h : DSt w p S.size st) (hk : KTold S b L st) (hx : S.size + x.size ≤ 9000) :
    Calls Tryz.prog 7 #[.pointer (some ⟨p, 0, none⟩), .string x] w fun e w' => ∃ tv L2 st2, e = .returned tv ∧ REvRow w' w.heap.size tv L2 ∧ DSt w' p (S.size + x.size) st2 ∧ Turned w w' p none ∧ KTold (S ++ x) b (L ++ L2) st2 := by
  cases st with
  | none =>
    obtain ⟨s, b', hc, hs⟩ := h
    refine (feed18_over p s x b' w hc (by omega)).mono ?_
    rintro e w' ⟨rfl, rfl⟩
    exact ⟨_, [], none, rfl, REvRow.nil _ _, ⟨_, _, hc.putS _, by rw [ByteArray.size_append]; omega⟩, turned_set _ _ _ _, by rw [List.append_nil]; exact hk.over_app x rfl⟩
  | some r =>
    obtain ⟨s, b1⟩ := r
    have hs := hk.size.2 s b1 rfl
    refine (feed18_any p s x b1 w (show DCell w p s b1 false from h) (by omega)).mono ?_
    rintro e w' ⟨tv, L2, st2, rfl, h1, h2, h3, h4⟩
    exact ⟨tv, L2, st2, rfl, h2, h3.more (by omega), h4, hk.fed rfl h1⟩
theorem feed_ev (p q : Nat) (v : Value) (x S : ByteArray) (b : Bool) (L : List Ev) (st : Option (ByteArray × Bool)) (w : World) (h : FSt w p q v st) (hk : KTold S b L st) (hx : S.size + x.size ≤ 1000000000) :
    Calls Tryz.prog 6 #[.pointer (some ⟨p, 0, none⟩), .string x] w fun e w' => ∃ tv L2 st2 v', e = .returned tv ∧ EvRow w' w.heap.size tv L2 ∧ FSt w' p q v' st2 ∧ TurnedS w w' p q st v.ownBlock ∧ (∀ k, v'.ownBlock = some k → v.ownBlock = some k ∨ w.heap.size ≤ k) ∧ KTold (S ++ x) b (L ++ L2) st2 := by
  cases st with
  | none =>
    obtain ⟨b', hc⟩ := h
    refine (feed_over p b' x w hc).mono ?_
    rintro e w' ⟨rfl, rfl⟩
    exact ⟨_, [], none, v, rfl, EvRow.nil _ _, ⟨b', hc⟩, ⟨rfl, rfl, rfl, Nat.le_refl _, fun k _ _ _ _ => rfl⟩, fun k hk => .inl hk, by rw [List.append_nil]; exact hk.over_app x rfl⟩
  | some r =>
    obtain ⟨s, b1⟩ := r
    have hs := hk.size.2 s b1 rfl
    refine (feedF_any p q v s x b1 w h (by omega)).mono ?_
    rintro e w' ⟨tv, L2, st2, v', rfl, h1, h2, h3, h4, h5⟩
    exact ⟨tv, L2, st2, v', rfl, h2, h3, ⟨h4.os, h4.tape, h4.output, h4.size, fun k hk hp hq hr => h4.block k hk hp hq (hr (by simp))⟩, h5, hk.fed rfl h1⟩
/-- A front whose blocks lie as they lay. -/
theorem FSt.kept18 {w w' : World} {p q p2 : Nat} {v : Value} {st : Option (ByteArray × Bool)} (h : FSt w p q v st) (ht : Turned w w' p2 none) (hp : p ≠ p2) (hq : q ≠ p2) (hv : st ≠ none → some p2 ≠ v.ownBlock) : FSt w' p q v st := by
  cases st with
  | none =>
    obtain ⟨b, hc⟩ := h
    exact ⟨b, hc.same (ht.block p hc.lt hp (by simp))⟩
  | some r =>
    obtain ⟨s, b⟩ := r
    have h : FIs w p q v s b := h
    exact (show FIs w' p q v s b from ⟨h.cell.same (ht.block p h.cell.lt hp (by simp)), ⟨(ht.block q h.rd.lt hq (by simp)).trans h.rd.heap, h.rd.own.kept (fun k hk => ht.block k (h.rd.own.lt k hk) (fun e => hv (by simp) (by rw [← e, hk])) (by simp))⟩, h.ne, h.row⟩)
theorem ev_read5 {w : World} {B : Nat} {v : Value} {L : List Ev} (h : EvRow w B v L) : ∃ a c, v = .slice a L.length c ∧ L.length ≤ c ∧ (L = [] ∨ ∃ g, a = some ⟨g, 0, none⟩ ∧ B ≤ g ∧ g < w.heap.size ∧ ∀ i E, L[i]? = some E → ∃ b m d, w.cell? ⟨g, i * 5, none⟩ = some (.int .u8 (E.k.toNat : Nat)) ∧ w.cell? ⟨g, i * 5 + 1, none⟩ = some (.string ⟨E.u.toArray⟩) ∧ w.cell? ⟨g, i * 5 + 2, none⟩ = some (.string ⟨E.d.toArray⟩) ∧ w.cell? ⟨g, i * 5 + 3, none⟩ = some (.string ⟨E.t.toArray⟩) ∧ w.cell? ⟨g, i * 5 + 4, none⟩ = some (.slice b m d) ∧ NumsIn w (.slice b m d) E.n) := by
  obtain ⟨xs, hO, hX⟩ := h
  rcases hO.2 with ⟨rfl, hz⟩ | ⟨g, cap, cur, rfl, hb, hg, hn, hrest⟩
  · exact ⟨none, 0, by rw [hz], by omega, .inl (List.eq_nil_of_length_eq_zero hz)⟩
  · refine ⟨_, cap, rfl, hn, .inr ⟨g, rfl, hb, (Array.getElem?_eq_some_iff.1 hg).1, fun i E hi => ?_⟩⟩
    obtain ⟨sl, c0, c1, c2, c3, c4, b, m, d, rfl, hN, _⟩ := hX i E hi
    have hc := hO.cells (g := g) rfl
    have a0 := hc _ _ c0
    have a1 := hc _ _ c1
    have a2 := hc _ _ c2
    have a3 := hc _ _ c3
    have a4 := hc _ _ c4
    rw [Go.WideShapes.add_plain, Nat.zero_add] at a0 a1 a2 a3 a4
    exact ⟨b, m, d, a0, a1, a2, a3, a4, hN⟩
theorem rev_read5 {w : World} {B : Nat} {v : Value} {L : List Ev} (h : REvRow w B v L) : ∃ a c, v = .slice a L.length c ∧ L.length ≤ c ∧ (L = [] ∨ ∃ g, a = some ⟨g, 0, none⟩ ∧ B ≤ g ∧ g < w.heap.size ∧ ∀ i E, L[i]? = some E → ∃ b m d, w.cell? ⟨g, i * 5, none⟩ = some (.int .u8 (E.k.toNat : Nat)) ∧ w.cell? ⟨g, i * 5 + 1, none⟩ = some (.string ⟨E.u.toArray⟩) ∧ w.cell? ⟨g, i * 5 + 2, none⟩ = some (.string ⟨E.d.toArray⟩) ∧ w.cell? ⟨g, i * 5 + 3, none⟩ = some (.string ⟨E.t.toArray⟩) ∧ w.cell? ⟨g, i * 5 + 4, none⟩ = some (.slice b m d) ∧ NumsIn w (.slice b m d) E.n) := by
  obtain ⟨xs, hO, hX⟩ := h
  rcases hO.2 with ⟨rfl, hz⟩ | ⟨g, cap, cur, rfl, hb, hg, hn, hrest⟩
  · exact ⟨none, 0, by rw [hz], by omega, .inl (List.eq_nil_of_length_eq_zero hz)⟩
  · refine ⟨_, cap, rfl, hn, .inr ⟨g, rfl, hb, (Array.getElem?_eq_some_iff.1 hg).1, fun i E hi => ?_⟩⟩
    obtain ⟨sl, c0, c1, c2, c3, c4, b, m, d, rfl, hN, _⟩ := hX i E hi
    have hc := hO.cells (g := g) rfl
    have a0 := hc _ _ c0
    have a1 := hc _ _ c1
    have a2 := hc _ _ c2
    have a3 := hc _ _ c3
    have a4 := hc _ _ c4
    rw [Go.WideShapes.add_plain, Nat.zero_add] at a0 a1 a2 a3 a4
    exact ⟨b, m, d, a0, a1, a2, a3, a4, hN⟩
end Go.Proofs.YtmofnkinclckoaaGreatDoor
