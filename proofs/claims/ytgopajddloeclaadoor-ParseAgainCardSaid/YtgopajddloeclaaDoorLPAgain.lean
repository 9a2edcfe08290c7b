/- Blanks, comments, a sign behind, and great letters in words, change no command: ParseAgain answers true, and leaves what was there as it was. (Over the listed variables, tied to the program's text.) -/
import Derived.Test.YtgopajddloeclaaDoorZ12
import Derived.Test.YtgopajddloeclaaDoorZ25
import Derived.Test.YtgopajddloeclaaDoorLPLong
import Derived.Test.YtgopajddloeclaaDoorLPGreat
import Derived.Test.YtgopajddloeclaaDoorLFieldsA
import Derived.Deep.DeepCutAuto
import Derived.Deep.LoopGhost
import Derived.BigQuiet
import Derived.Deep.QuietTactic
namespace Go.Proofs.YtgopajddloeclaaDoor
open Go.RowKit Go.Lib Go.WideShapes Go.ChangeShapes Go.ChangeAt Go.Joins

/-- A command that lies in a block of its own. -/
structure ABox (w : World) (b : Nat) (c : Cmd) : Prop where
  lt : b < w.heap.size
  c0 : w.cell? ⟨b, 0, none⟩ = some (.int .u8 (c.kind.toNat : Nat))
  c1 : w.cell? ⟨b, 1, none⟩ = some (.string ⟨c.name.toArray⟩)
  c2 : w.cell? ⟨b, 2, none⟩ = some (.string ⟨c.value.toArray⟩)
theorem ABox.step {w w' : World} {b : Nat} {c : Cmd} (h : ABox w b c) (hb : Below w.heap.size w w') : ABox w' b c :=
  ⟨Nat.lt_of_lt_of_le h.lt hb.size, (hb.cell (p := ⟨b, 0, none⟩) h.lt).trans h.c0, (hb.cell (p := ⟨b, 1, none⟩) h.lt).trans h.c1, (hb.cell (p := ⟨b, 2, none⟩) h.lt).trans h.c2⟩
theorem ABox.new (w : World) (c : Cmd) (u : TypeId) : ABox (w.alloc (.cells #[.int .u8 (c.kind.toNat : Nat), .string ⟨c.name.toArray⟩, .string ⟨c.value.toArray⟩] u)) w.heap.size c :=
  ⟨by simp, World.cell?_alloc_new _ _ _ _, World.cell?_alloc_new _ _ _ _, World.cell?_alloc_new _ _ _ _⟩

/-- A row of tokens that may be written. -/
structure TRow (w : World) (g : Nat) (U : List Tok) : Prop where
  lt : g < w.heap.size
  cells : ∀ (i : Nat) (q : Tok), U[i]? = some q → w.cell? ⟨g, i * 4, none⟩ = some (.int .u8 (q.kind.toNat : Nat)) ∧ w.cell? ⟨g, i * 4 + 1, none⟩ = some (.string ⟨q.text.toArray⟩) ∧ w.cell? ⟨g, i * 4 + 2, none⟩ = some (.int .i64 q.lo) ∧ w.cell? ⟨g, i * 4 + 3, none⟩ = some (.int .i64 q.hi)
  free : ∀ i, w.frozen? ⟨g, i, none⟩ = false
theorem TRow.step {w w' : World} {g : Nat} {U : List Tok} (h : TRow w g U) (hb : Below w.heap.size w w') : TRow w' g U := by
  refine ⟨Nat.lt_of_lt_of_le h.lt hb.size, fun i q hq => ?_, fun i => (hb.frozen (p := ⟨g, i, none⟩) h.lt).trans (h.free i)⟩
  obtain ⟨a, b, c, d⟩ := h.cells i q hq
  exact ⟨(hb.cell (p := ⟨g, i * 4, none⟩) h.lt).trans a, (hb.cell (p := ⟨g, i * 4 + 1, none⟩) h.lt).trans b, (hb.cell (p := ⟨g, i * 4 + 2, none⟩) h.lt).trans c, (hb.cell (p := ⟨g, i * 4 + 3, none⟩) h.lt).trans d⟩
theorem TRow.off {w : World} {g : Nat} {U : List Tok} (h : TRow w g U) : TokOff w (some ⟨g, 0, none⟩) U :=
  .inr ⟨g, 0, rfl, h.lt, fun i q hq => by rw [Nat.zero_add]; exact h.cells i q hq⟩
theorem TRow.store {w : World} {g k : Nat} {U : List Tok} {t : Tok} {X : Bs} (h : TRow w g U) (hk : U[k]? = some t) : TRow (w.setCell ⟨g, k * 4 + 1, none⟩ (.string ⟨X.toArray⟩)) g (U.set k ⟨t.kind, X, t.lo, t.hi⟩) := by
  have hl := (List.getElem?_eq_some_iff.1 hk).1
  have ne : ∀ i, i ≠ k * 4 + 1 → (w.setCell ⟨g, k * 4 + 1, none⟩ (.string ⟨X.toArray⟩)).cell? ⟨g, i, none⟩ = w.cell? ⟨g, i, none⟩ := fun i hi => World.cell?_setCell_other _ _ _ _ (by intro e; injection e with _ e2; exact hi e2.symm)
  refine ⟨by rw [World.size_setCell]; exact h.lt, fun i q hq => ?_, fun i => by rw [World.frozen?_setCell]; exact h.free i⟩
  by_cases hi : i = k
  · subst hi
    rw [List.getElem?_set_self hl] at hq
    obtain rfl := Option.some.inj hq
    obtain ⟨a, b, c, d⟩ := h.cells i t hk
    exact ⟨(ne _ (by omega)).trans a, World.cell?_setCell_same _ _ _ b, (ne _ (by omega)).trans c, (ne _ (by omega)).trans d⟩
  · rw [List.getElem?_set_ne (fun e => hi e.symm)] at hq
    obtain ⟨a, b, c, d⟩ := h.cells i q hq
    exact ⟨(ne _ (by omega)).trans a, (ne _ (by omega)).trans b, (ne _ (by omega)).trans c, (ne _ (by omega)).trans d⟩

theorem scan_write (s : ByteArray) (m : Int) (w : World) (hs : s.size ≤ 2000) (hm : w.cell? ⟨2, 0, none⟩ = some (.int .i64 m)) {T : List Tok} (hT : tokens (bytes s) = some T) :
    Calls Tryd.prog 17 #[.string s] w fun e w' => Below w.heap.size w w' ∧ ((T = [] ∧ ∃ p c, e = .returned (.tuple #[.slice p 0 c, .int .i64 0])) ∨ ∃ g c, e = .returned (.tuple #[.slice (some ⟨g, 0, none⟩) T.length c, .int .i64 0]) ∧ w.heap.size ≤ g ∧ TRow w' g T) := by
  refine (scan_small s m w hs hm).mono ?_
  rintro e w' ⟨hB, ⟨hN, _⟩ | ⟨L, p, c, hL, rfl, hl, hO⟩⟩
  · rw [hT] at hN; cases hN
  · rw [hT] at hL
    obtain rfl := Option.some.inj hL
    refine ⟨hB, ?_⟩
    by_cases h0 : T.length = 0
    · left
      obtain rfl := List.length_eq_zero_iff.1 h0
      exact ⟨rfl, p, c, rfl⟩
    · right
      obtain ⟨g, cap, hv, hn, hc, hg, hlt, hcells⟩ := tok_cells hO (by omega)
      simp only [Value.slice.injEq] at hv
      obtain ⟨rfl, _, rfl⟩ := hv
      refine ⟨g, c, rfl, hg, hlt, fun i q hq => ?_, fun i => ?_⟩
      · obtain ⟨a, b, x, d⟩ := tokC_at T i q hq
        exact ⟨hcells _ _ a, hcells _ _ b, hcells _ _ x, hcells _ _ d⟩
      · rcases hO.2 with ⟨hv, _⟩ | ⟨g', cap', cur, hv, hb, hgg, _⟩
        · cases hv
        · simp only [Value.slice.injEq, Option.some.injEq, Addr.mk.injEq, and_true, true_and] at hv
          obtain ⟨rfl, rfl⟩ := hv
          simp [World.frozen?, hgg]

/-- Tokens whose words ahead of k have other letters great. -/
def GTo (U T : List Tok) (k : Nat) : Prop := Great U T ∧ ∀ j, k ≤ j → U[j]? = T[j]?
theorem great_refl (T : List Tok) : Great T T := ⟨rfl, fun i u t hu ht => by
  rw [hu] at ht
  obtain rfl := Option.some.inj ht
  exact ⟨rfl, fun _ => rfl, fun _ => ups_refl _⟩⟩
theorem gto_next {U T : List Tok} {k : Nat} (h : GTo U T k) : GTo U T (k + 1) := ⟨h.1, fun j hj => h.2 j (by omega)⟩
theorem gto_set {U T : List Tok} {k : Nat} {t : Tok} {X : Bs} (h : GTo U T k) (hk : T[k]? = some t) (hw : t.kind = 119) (hx : Ups X t.text) : GTo (U.set k ⟨t.kind, X, t.lo, t.hi⟩) T (k + 1) := by
  have hUk : U[k]? = some t := (h.2 k (Nat.le_refl _)).trans hk
  have hl := (List.getElem?_eq_some_iff.1 hUk).1
  refine ⟨⟨by rw [List.length_set]; exact h.1.1, fun i u y hu hy => ?_⟩, fun j hj => by rw [List.getElem?_set_ne (by omega)]; exact h.2 j (by omega)⟩
  by_cases hi : i = k
  · subst hi
    rw [List.getElem?_set_self hl] at hu
    rw [hk] at hy
    obtain rfl := Option.some.inj hu
    obtain rfl := Option.some.inj hy
    exact ⟨rfl, fun e => absurd hw e, fun _ => hx⟩
  · rw [List.getElem?_set_ne (fun e => hi e.symm)] at hu
    exact h.1.2 i u y hu hy
theorem great_small {U T : List Tok} (h : Great U T) {n : Nat} (hT : ∀ q ∈ T, q.text.length ≤ n) : ∀ q ∈ U, q.text.length ≤ n := by
  intro q hq
  obtain ⟨i, hi, rfl⟩ := List.mem_iff_getElem.1 hq
  have hi' : i < T.length := by rw [← h.1]; exact hi
  obtain ⟨_, g2, g3⟩ := h.2 i U[i] T[i] (List.getElem?_eq_getElem hi) (List.getElem?_eq_getElem hi')
  have ht := hT T[i] (List.getElem_mem hi')
  by_cases hk : U[i].kind = 119
  · rw [(g3 hk).1]; exact ht
  · rw [g2 hk]; exact ht


theorem mid_bytes (s : ByteArray) : bytes ((({ data := #[32, 47, 42, 32, 120, 32, 42, 47, 10] } : ByteArray) ++ s) ++ ({ data := #[10, 59, 32, 59, 45, 45] } : ByteArray)) = 32 :: 47 :: 42 :: 32 :: 120 :: 32 :: 42 :: 47 :: 10 :: (bytes s ++ [10, 59, 32, 59, 45, 45]) := by
  rw [p_cat, p_cat]; simp [bytes]
theorem no_box : noCmd.name = [] ∧ noCmd.value = [] ∧ noCmd.kind = 0 := ⟨rfl, rfl, rfl⟩

set_option maxRecDepth 100000 in
set_option maxHeartbeats 8000000 in
theorem again_none (s : ByteArray) (bits : Int) (m : Int) (w : World) (hln : (s.size : Int) ≤ 1500) (hT : tokens (bytes s) = none) (hm : w.cell? ⟨2, 0, none⟩ = some (.int .i64 m)) (hbar : BarredAt w) :
    Calls Tryd.prog 4 #[.string s, .int .i64 bits] w fun e w' => e = .returned (.bool true) ∧ Below w.heap.size w w' := by
  have HSH := Lib.hid (shown9_true m w hm hbar)
  have HM := Lib.hid (fun (W : World) (h : Below w.heap.size w W) => (h.cell (p := ⟨2, 0, none⟩) (World.block_lt_of_cell? w ⟨2, 0, none⟩ hm)).trans hm)
  have hq1 := parsed_none (s := bytes s) (by rw [bytes_len]; omega) hT
  have hsz : ((({ data := #[32, 47, 42, 32, 120, 32, 42, 47, 10] } : ByteArray) ++ s) ++ ({ data := #[10, 59, 32, 59, 45, 45] } : ByteArray)).size ≤ 2000 := by rw [ByteArray.size_append, ByteArray.size_append]; show 9 + s.size + 6 ≤ _; omega
  have hq2 := parsed_none (s := bytes ((({ data := #[32, 47, 42, 32, 120, 32, 42, 47, 10] } : ByteArray) ++ s) ++ ({ data := #[10, 59, 32, 59, 45, 45] } : ByteArray))) (by rw [bytes_len]; exact hsz) (by rw [mid_bytes]; exact (again_tokens (bytes s)).1 hT)
  have HP1 := Lib.hid (fun (W : World) (h : Below w.heap.size w W) => (show Calls Tryd.prog 11 #[.string s] W fun e w' => e = .returned (.tuple #[.agg #[.int .u8 0, .string { data := #[] }, .string { data := #[] }], .int .i64 2]) ∧ Below W.heap.size W w' from by
    have := parse_any s m W (by omega) (HM.out W h) (hbar.step h)
    rw [hq1] at this; exact this))
  have HP2 := Lib.hid (fun (W : World) (h : Below w.heap.size w W) => (show Calls Tryd.prog 11 #[.string ((({ data := #[32, 47, 42, 32, 120, 32, 42, 47, 10] } : ByteArray) ++ s) ++ ({ data := #[10, 59, 32, 59, 45, 45] } : ByteArray))] W fun e w' => e = .returned (.tuple #[.agg #[.int .u8 0, .string { data := #[] }, .string { data := #[] }], .int .i64 2]) ∧ Below W.heap.size W w' from by
    have := parse_any ((({ data := #[32, 47, 42, 32, 120, 32, 42, 47, 10] } : ByteArray) ++ s) ++ ({ data := #[10, 59, 32, 59, 45, 45] } : ByteArray)) m W hsz (HM.out W h) (hbar.step h)
    rw [hq2] at this; exact this))
  clear hm hbar hq1 hq2 hsz hT HM
  go_enter Tryd.func4, Tryd.ntmps4
  go_wp2_with fail
  refine HSH.out.mono ?_; rintro e w1 ⟨rfl, hb1⟩
  have HB1 := Lib.hid hb1
  clear hb1 HSH
  go_wp2_with fail
  refine (HP1.out w1 HB1.out).mono ?_; rintro e w2 ⟨rfl, hb2⟩
  have HB2 := Lib.hid (HB1.out.step hb2 HB1.out.size)
  clear hb2 HB1 HP1
  go_wp2_with fail
  have HBX := Lib.hid (ABox.new w2 ⟨0, [], []⟩ 27)
  have HB3 := Lib.hid (HB2.out.alloc HB2.out.size (Obj.cells #[.int .u8 0, .string { data := #[] }, .string { data := #[] }] 27))
  refine (HP2.out _ HB3.out).mono ?_; rintro e w4 ⟨rfl, hb4⟩
  have HB4 := Lib.hid (HB3.out.step hb4 HB3.out.size)
  obtain ⟨hl, a0, a1, a2⟩ := HBX.out.step hb4
  replace a0 : w4.cell? ⟨w2.heap.size, 0, none⟩ = some (.int .u8 0) := a0
  replace a1 : w4.cell? ⟨w2.heap.size, 1, none⟩ = some (.string { data := #[] }) := a1
  replace a2 : w4.cell? ⟨w2.heap.size, 2, none⟩ = some (.string { data := #[] }) := a2
  clear hb4 HB3 HP2 HBX
  go_wp2_with fail
  go_ret
  exact ⟨rfl, HB4.out.alloc HB4.out.size _⟩

set_option maxRecDepth 100000 in
set_option maxHeartbeats 16000000 in
theorem again_some (s : ByteArray) (bits : Int) (m : Int) (w : World) (hln : (s.size : Int) ≤ 1500) (T : List Tok) (hT : tokens (bytes s) = some T) (hm : w.cell? ⟨2, 0, none⟩ = some (.int .i64 m)) (hbar : BarredAt w) :
    Calls Tryd.prog 4 #[.string s, .int .i64 bits] w fun e w' => e = .returned (.bool true) ∧ Below w.heap.size w w' := by
  have HSH := Lib.hid (shown9_true m w hm hbar)
  have HM := Lib.hid (fun (W : World) (h : Below w.heap.size w W) => (h.cell (p := ⟨2, 0, none⟩) (World.block_lt_of_cell? w ⟨2, 0, none⟩ hm)).trans hm)
  have hq1 := parsed_tokens (s := bytes s) (by rw [bytes_len]; omega) hT
  have hsz : ((({ data := #[32, 47, 42, 32, 120, 32, 42, 47, 10] } : ByteArray) ++ s) ++ ({ data := #[10, 59, 32, 59, 45, 45] } : ByteArray)).size ≤ 2000 := by rw [ByteArray.size_append, ByteArray.size_append]; show 9 + s.size + 6 ≤ _; omega
  obtain ⟨U0, hU0, hpU0⟩ := (again_tokens (bytes s)).2 T hT
  have hq2 := parsed_tokens (s := bytes ((({ data := #[32, 47, 42, 32, 120, 32, 42, 47, 10] } : ByteArray) ++ s) ++ ({ data := #[10, 59, 32, 59, 45, 45] } : ByteArray))) (T := U0) (by rw [bytes_len]; exact hsz) (by rw [mid_bytes]; exact hU0)
  rw [hpU0] at hq2
  have HGP := Lib.hid (fun (U : List Tok) (h : Great U T) => great_parsed hT h)
  have HTS := Lib.hid (show ∀ q ∈ T, q.text.length ≤ 1500 from fun q hq => Nat.le_trans (tokens_small hT q hq) (by rw [bytes_len]; omega))
  have HTL := Lib.hid (show T.length ≤ 1500 from Nat.le_trans (tokens_facts hT).1 (by rw [bytes_len]; omega))
  have HSC := Lib.hid (fun (W : World) (h : Below w.heap.size w W) => scan_write s m W (by omega) (HM.out W h) hT)
  have HPA := Lib.hid (fun (S : ByteArray) (W : World) h1 (h : Below w.heap.size w W) => parse_all S m W h1 (HM.out W h) (hbar.step h))
  have HFI := Lib.hid (fun p T n c (W : World) h1 h2 h3 h4 (h : Below w.heap.size w W) => fields_any p T n c m W h1 h2 h3 h4 (HM.out W h))
  have HGR := Lib.hid (fun (S : ByteArray) (W : World) h => great_any S bits W h)
  obtain ⟨cm, hcm⟩ : ∃ cm, cm = parsedT T := ⟨_, rfl⟩
  rw [← hcm] at hq1 hq2 HGP
  have HP1 := Lib.hid (fun (W : World) (h : Below w.heap.size w W) => (show Calls Tryd.prog 11 #[.string s] W fun e w' => e = .returned (.tuple #[.agg #[.int .u8 (cm.kind.toNat : Nat), .string ⟨cm.name.toArray⟩, .string ⟨cm.value.toArray⟩], .int .i64 0]) ∧ Below W.heap.size W w' from by
    have := parse_any s m W (by omega) (HM.out W h) (hbar.step h)
    rw [hq1] at this; exact this))
  have HP2 := Lib.hid (fun (W : World) (h : Below w.heap.size w W) => (show Calls Tryd.prog 11 #[.string ((({ data := #[32, 47, 42, 32, 120, 32, 42, 47, 10] } : ByteArray) ++ s) ++ ({ data := #[10, 59, 32, 59, 45, 45] } : ByteArray))] W fun e w' => e = .returned (.tuple #[.agg #[.int .u8 (cm.kind.toNat : Nat), .string ⟨cm.name.toArray⟩, .string ⟨cm.value.toArray⟩], .int .i64 0]) ∧ Below W.heap.size W w' from by
    have := parse_any ((({ data := #[32, 47, 42, 32, 120, 32, 42, 47, 10] } : ByteArray) ++ s) ++ ({ data := #[10, 59, 32, 59, 45, 45] } : ByteArray)) m W hsz (HM.out W h) (hbar.step h)
    rw [hq2] at this; exact this))
  clear hm hbar hq1 hq2 hsz hT HM hcm hU0 hpU0
  go_enter Tryd.func4, Tryd.ntmps4
  go_wp2_with fail
  refine HSH.out.mono ?_; rintro e w1 ⟨rfl, hb1⟩
  have HB1 := Lib.hid hb1
  clear hb1 HSH
  go_wp2_with fail
  refine (HP1.out w1 HB1.out).mono ?_; rintro e w2 ⟨rfl, hb2⟩
  have HB2 := Lib.hid (HB1.out.step hb2 HB1.out.size)
  clear hb2 HB1 HP1
  go_wp2_with fail
  have HBX := Lib.hid (ABox.new w2 cm 27)
  have HB3 := Lib.hid (HB2.out.alloc HB2.out.size (Obj.cells #[.int .u8 (cm.kind.toNat : Nat), .string ⟨cm.name.toArray⟩, .string ⟨cm.value.toArray⟩] 27))
  refine (HP2.out _ HB3.out).mono ?_; rintro e w4 ⟨rfl, hb4⟩
  have HB4 := Lib.hid (HB3.out.step hb4 HB3.out.size)
  have HBX4 := Lib.hid (HBX.out.step hb4)
  clear hb4 HB3 HP2 HBX HB2
  go_wp2_with fail
  have HBY := Lib.hid (ABox.new w4 cm 27)
  have HBX5 := Lib.hid (HBX4.out.step ((Below.refl _ w4).alloc (Nat.le_refl _) (Obj.cells #[.int .u8 (cm.kind.toNat : Nat), .string ⟨cm.name.toArray⟩, .string ⟨cm.value.toArray⟩] 27)))
  have HB5 := Lib.hid (HB4.out.alloc HB4.out.size (Obj.cells #[.int .u8 (cm.kind.toNat : Nat), .string ⟨cm.name.toArray⟩, .string ⟨cm.value.toArray⟩] 27))
  generalize w4.alloc (Obj.cells #[.int .u8 (cm.kind.toNat : Nat), .string ⟨cm.name.toArray⟩, .string ⟨cm.value.toArray⟩] 27) = w5 at HBY HBX5 HB5 ⊢
  clear HBX4 HB4
  refine (HSC.out _ HB5.out).mono ?_; rintro e w6 ⟨hb6, hcs⟩
  have HB6 := Lib.hid (HB5.out.step hb6 HB5.out.size)
  have HBX6 := Lib.hid (HBX5.out.step hb6)
  have HBY6 := Lib.hid (HBY.out.step hb6)
  have HL6 := Lib.hid hb6
  clear hb6 HSC
  rcases hcs with ⟨hT0, p, c, rfl⟩ | ⟨g, c, rfl, hg, hR⟩
  · subst hT0
    obtain ⟨V, hV, hpV⟩ := HGP.out [] (great_refl [])
    go_wp2_with fail
    go_loopg [12] 0 (fun gg i wr => i = .int .i64 0 ∧ gg = 0 ∧ wr = w6)
    case atStart => exact ⟨rfl, rfl, rfl⟩
    case round =>
      obtain ⟨rfl, hgg, rfl⟩ := hrel
      clear hgg
      go_wp2_with fail
      refine (HFI.out p [] 0 c wr rfl (by omega) (.inl rfl) (fun q hq => by cases hq) HB6.out).mono ?_; rintro e w8 ⟨rfl, hb8⟩
      obtain ⟨S, hS⟩ : ∃ S : ByteArray, S = ⟨(fieldsB []).toArray⟩ := ⟨_, rfl⟩
      rw [← hS]
      have hSB : bytes S = fieldsB [] := by rw [hS]
      have hss : S.size ≤ 0 := by rw [← bytes_len, hSB]; exact Nat.le_refl _
      have hss2 : S.size ≤ 9223372036854775807 := by omega
      have HB8 := Lib.hid (HB6.out.step hb8 HB6.out.size)
      have HBK8 := Lib.hid (HL6.out.step hb8 HL6.out.size)
      have hpa := HPA.out S w8 hss2 HB8.out
      rw [hSB] at hpa
      have HPS := Lib.hid (show S.size ≤ 2000 → parsedC (fieldsB []) = (cm, 0) from fun h => by
        rw [parsed_tokens (by rw [← hSB, bytes_len]; exact h) hV, hpV])
      obtain ⟨pc, hpc⟩ : ∃ pc, pc = parsedC (fieldsB []) := ⟨_, rfl⟩
      rw [← hpc] at hpa HPS
      have HPP := Lib.hid hpa
      unfold Cmd.val at HPP
      clear hS hSB hss hb8 hpa hpc hV hpV
      go_wp2_with fail
      refine HPP.out.mono ?_; rintro e w9 ⟨rfl, hb9⟩
      have HB9 := Lib.hid (HB8.out.step hb9 HB8.out.size)
      have hbk := HBK8.out.step hb9 HBK8.out.size
      obtain ⟨x0, x1, x2, x3⟩ := HBX5.out.step hbk
      obtain ⟨y0, y1, y2, y3⟩ := HBY.out.step hbk
      clear hb9 hbk HPP
      by_cases h20 : S.size ≤ 2000
      · have h20' : (S.size : Int) ≤ 2000 := by omega
        obtain rfl := HPS.out h20
        clear HPS
        go_wp2_with fail
        go_ret
        exact ⟨rfl, HB9.out.alloc HB9.out.size _⟩
      · have h20' : (2000 : Int) < S.size := by omega
        clear HPS
        go_wp2_with fail
        go_ret
        exact ⟨rfl, HB9.out.alloc HB9.out.size _⟩
  · have HR := Lib.hid hR
    obtain ⟨n, hn⟩ : ∃ n, n = T.length := ⟨_, rfl⟩
    rw [← hn]
    have HN := Lib.hid hn
    have hn15 : n ≤ 1500 := by rw [hn]; exact HTL.out
    clear hR hn
    go_wp2_with fail
    go_loopg [12] n (fun gg i wr => ∃ (k : Nat) (U : List Tok), i = .int .i64 k ∧ k ≤ n ∧ gg = n - k ∧ GTo U T k ∧ TRow wr g U ∧ Below w5.heap.size w5 wr)
    case atStart => exact ⟨0, T, rfl, Nat.zero_le _, rfl, ⟨great_refl T, fun _ _ => rfl⟩, HR.out, HL6.out⟩
    case round =>
      obtain ⟨k, U, rfl, hk, hgg, hG, hRk, hBk⟩ := hrel
      have HG := Lib.hid hG; have HRK := Lib.hid hRk; have HBK := Lib.hid hBk; have HGG := Lib.hid hgg
      clear hG hRk hBk hgg
      by_cases hlt : k < n
      · have hlt' : (k : Int) < n := by omega
        obtain ⟨t, ht⟩ : ∃ t, T[k]? = some t := ⟨_, List.getElem?_eq_getElem (by rw [← HN.out]; exact hlt)⟩
        have hUt : U[k]? = some t := (HG.out.2 k (Nat.le_refl _)).trans ht
        obtain ⟨c0, c1, c2, c3⟩ := HRK.out.cells k t hUt
        have f1 := HRK.out.free (k * 4 + 1)
        have HT := Lib.hid ht
        have hts : t.text.length ≤ 1500 := HTS.out t (List.mem_of_getElem? ht)
        have HUT := Lib.hid hUt
        clear ht hUt
        by_cases hw : t.kind = 119
        · rw [hw] at c0
          have HW := Lib.hid hw
          clear hw
          go_wp2_with fail
          refine (HGR.out ⟨t.text.toArray⟩ wr (by rw [str_size]; omega)).mono ?_; rintro e w7 ⟨X, rfl, hX, hb7⟩
          have HX := Lib.hid (show Ups X t.text from hX)
          have HB7 := Lib.hid (HBK.out.step hb7 HBK.out.size)
          have HR7 := Lib.hid (HRK.out.step hb7)
          clear hX hb7 c0 c1 c2 c3 f1
          obtain ⟨c0, c1, c2, c3⟩ := HR7.out.cells k t HUT.out
          have f1 := HR7.out.free (k * 4 + 1)
          have HRS := Lib.hid (HR7.out.store (X := X) HUT.out)
          have HBS := Lib.hid (HB7.out.setCell (p := ⟨g, k * 4 + 1, none⟩) hg (.string ⟨X.toArray⟩))
          have HGS := Lib.hid (gto_set HG.out HT.out HW.out HX.out)
          go_wp2_with fail
          go_roundg (n - (k + 1))
          case measure => have := HGG.out; omega
          case rel => exact ⟨k + 1, _, by go_num, by omega, rfl, HGS.out, HRS.out, HBS.out⟩
        · have hw2 : ((t.kind.toNat : Int) == 119) = false := by
            rw [beq_eq_false_iff_ne]
            intro e
            exact hw (UInt8.toNat_inj.1 (show t.kind.toNat = (119 : UInt8).toNat from by have : ((119 : UInt8).toNat : Int) = 119 := rfl; omega))
          have HNX := Lib.hid (gto_next HG.out)
          clear hw
          go_wp2_with fail
          go_roundg (n - (k + 1))
          case measure => have := HGG.out; omega
          case rel => exact ⟨k + 1, U, by go_num, by omega, rfl, HNX.out, HRK.out, HBK.out⟩
      · obtain rfl : k = n := by omega
        obtain ⟨V, hV, hpV⟩ := HGP.out U HG.out.1
        have HUS := Lib.hid (great_small HG.out.1 HTS.out)
        have HUL := Lib.hid (show U.length = k from HG.out.1.1.trans HN.out.symm)
        have HBW := Lib.hid (HB5.out.step HBK.out HB5.out.size)
        have hff := fieldsB_take U (fun q hq => Nat.le_trans (HUS.out q hq) (by omega)) U.length (Nat.le_refl _)
        rw [List.take_length, HUL.out] at hff
        clear hlt
        go_wp2_with fail
        refine (HFI.out _ U k c wr HUL.out (by omega) HRK.out.off (fun q hq => Nat.le_trans (HUS.out q hq) (by omega)) HBW.out).mono ?_; rintro e w8 ⟨rfl, hb8⟩
        obtain ⟨S, hS⟩ : ∃ S : ByteArray, S = ⟨(fieldsB U).toArray⟩ := ⟨_, rfl⟩
        rw [← hS]
        have hSB : bytes S = fieldsB U := by rw [hS]
        have hss : S.size ≤ 4003 * k := by rw [← bytes_len, hSB]; exact hff
        have hss2 : S.size ≤ 9223372036854775807 := by omega
        have HB8 := Lib.hid (HBW.out.step hb8 HBW.out.size)
        have HBK8 := Lib.hid (HBK.out.step hb8 HBK.out.size)
        have hpa := HPA.out S w8 hss2 HB8.out
        rw [hSB] at hpa
        have HPS := Lib.hid (show S.size ≤ 2000 → parsedC (fieldsB U) = (cm, 0) from fun h => by
          rw [parsed_tokens (by rw [← hSB, bytes_len]; exact h) hV, hpV])
        obtain ⟨pc, hpc⟩ : ∃ pc, pc = parsedC (fieldsB U) := ⟨_, rfl⟩
        rw [← hpc] at hpa HPS
        have HPP := Lib.hid hpa
        unfold Cmd.val at HPP
        clear hS hSB hss hff hb8 hpa hpc hV hpV
        go_wp2_with fail
        refine HPP.out.mono ?_; rintro e w9 ⟨rfl, hb9⟩
        have HB9 := Lib.hid (HB8.out.step hb9 HB8.out.size)
        have hbk := HBK8.out.step hb9 HBK8.out.size
        obtain ⟨x0, x1, x2, x3⟩ := HBX5.out.step hbk
        obtain ⟨y0, y1, y2, y3⟩ := HBY.out.step hbk
        clear hb9 hbk HPP
        by_cases h20 : S.size ≤ 2000
        · have h20' : (S.size : Int) ≤ 2000 := by omega
          obtain rfl := HPS.out h20
          clear HPS
          go_wp2_with fail
          go_ret
          exact ⟨rfl, HB9.out.alloc HB9.out.size _⟩
        · have h20' : (2000 : Int) < S.size := by omega
          clear HPS
          go_wp2_with fail
          go_ret
          exact ⟨rfl, HB9.out.alloc HB9.out.size _⟩

set_option maxRecDepth 100000 in
set_option maxHeartbeats 1000000 in
theorem again_long (s : ByteArray) (bits : Int) (m : Int) (w : World) (_hz : s.size ≤ 140737488351232) (hln : (1500 : Int) < (s.size : Int)) (hm : w.cell? ⟨2, 0, none⟩ = some (.int .i64 m)) (hbar : BarredAt w) :
    Calls Tryd.prog 4 #[.string s, .int .i64 bits] w fun e w' => e = .returned (.bool true) ∧ Below w.heap.size w w' := by
  have HSH := Lib.hid (shown9_true m w hm hbar)
  clear hm hbar
  go_enter Tryd.func4, Tryd.ntmps4
  go_wp2_with fail
  refine HSH.out.mono ?_; rintro e w1 ⟨rfl, hb1⟩
  go_wp2_with fail
  go_ret
  exact ⟨rfl, hb1⟩

theorem again_walk (s : ByteArray) (bits : Int) (m : Int) (w : World) (hz : s.size ≤ 140737488351232) (hm : w.cell? ⟨2, 0, none⟩ = some (.int .i64 m)) (hbar : BarredAt w) :
    Calls Tryd.prog 4 #[.string s, .int .i64 bits] w fun e w' => e = .returned (.bool true) ∧ Below w.heap.size w w' := by
  by_cases h : (1500 : Int) < (s.size : Int)
  · exact again_long s bits m w hz h hm hbar
  · cases hT : tokens (bytes s) with
    | none => exact again_none s bits m w (by omega) hT hm hbar
    | some T => exact again_some s bits m w (by omega) T hT hm hbar

set_option maxRecDepth 100000 in
theorem again9_lifted (os : Os) (started : os.Started) (H : Type) (enc : TypeId × Value → H) :
    ReturnsInHanded {} Tryd.checked os 4 .any (fun w args => (Rows.parseAgainSpec.pre enc Tryd.prog Tryd.f4 Rows.parseAgainRow.domain false w args ∧ laidMetH Tryd.prog [("unicode/utf8.acceptRanges", Rows.laid_unicode_utf8_acceptRanges), ("taxirank/parse.barred", Rows.laid_taxirank_parse_barred), ("unicode/utf8.first", Rows.laid_unicode_utf8_first)] w) ∧ sizedMet enc Tryd.prog Tryd.f4 (OpenSpec.ofChange Rows.parseAgainSpec) false w args) (Rows.parseAgainSpec.post enc Tryd.prog Tryd.f4 false true false false) := by
  refine handed_laid (C := Tryd.checked) (X := fun w _ => laidMetH Tryd.prog [("unicode/utf8.acceptRanges", Rows.laid_unicode_utf8_acceptRanges), ("taxirank/parse.barred", Rows.laid_taxirank_parse_barred), ("unicode/utf8.first", Rows.laid_unicode_utf8_first)] w) (fun _ _ _ hh h => h.of_heap hh) own started (by kernel_rfl) Tryd.func4
    (ChangeSpec.witness_shaped (enc := enc) (C := Tryd.checked) (os := os) (X := fun w _ => laidMetH Tryd.prog [("unicode/utf8.acceptRanges", Rows.laid_unicode_utf8_acceptRanges), ("taxirank/parse.barred", Rows.laid_taxirank_parse_barred), ("unicode/utf8.first", Rows.laid_unicode_utf8_first)] w) false (World.laidAll Tryd.prog os [("unicode/utf8.acceptRanges", Rows.laid_unicode_utf8_acceptRanges), ("taxirank/parse.barred", Rows.laid_taxirank_parse_barred), ("unicode/utf8.first", Rows.laid_unicode_utf8_first)]) #[.string { data := #[] }, .int .i64 0] 8 (World.laidAll_os _ _ _) (World.shaped_of_ZipB (by kernel_rfl) (by kernel_rfl)) (by kernel_rfl) (by kernel_rfl) (by kernel_rfl)
      (by rw [MakeChecks.laidMetH_plain _ _ _ (by kernel_rfl)]; exact laidMet_laidAll _ (by kernel_rfl) (by kernel_rfl))) ?_
  intro W base args ds gs before hval0 hW hsz0 hsh hL
  obtain ⟨m, hm⟩ : ∃ m, W.cell? ⟨2, 0, none⟩ = some (.int .i64 m) := Tryd.laysM143.s1_3 W hsh
  have hbar := barred_of_three hL
  have hsz : (DataW.weightsEach Tryd.prog (Tryd.f4.params.toList ++ Rows.parseAgainSpec.plain.varTypes Tryd.prog) (ds ++ gs)).all (· ≤ reachBytes) = true := hsz0
  clear hsz0
  have hval : ∀ (j : Nat) t v, Tryd.f4.params[j]? = some t → args[j]? = some v → Value.okWide Tryd.prog W .any base t v := hval0
  have hW' := hW
  obtain ⟨p, q, hA0, hV, rfl, _, _⟩ := hW
  have hA : DataW.TrodAll enc Tryd.prog W 0 (fun _ => true) true Tryd.f4.params.toList args.toList ds p := hA0
  rw [Tryd.params4] at hA hval hsz
  obtain ⟨v0, v1, d0, d1, p0, p1, rfl, rfl, rfl, h0, h1⟩ := trodAll_two hA
  obtain ⟨rfl, rfl⟩ := trodVars_none hV
  obtain ⟨s, rfl, rfl, rfl, hl_s⟩ := Go.ChangeMaps.open_string Tryd.underlying9 (hval 0 9 v0 rfl rfl) h0
  have hz_s : s.size ≤ 140737488351232 := by have := sized_string hsz (j := 0) (t := 9) rfl rfl; rw [size_list] at this; exact this
  obtain ⟨bits, rfl, rfl, rfl, wf_bits⟩ := open_int Tryd.underlying3 (hval 1 3 v1 rfl rfl) h1
  have h_bits := int_range wf_bits
  refine (again_walk s bits m W hz_s hm hbar).mono fun e W' ⟨he, hb⟩ => ?_
  subst he
  exact ⟨_, rfl, law_shut laidOut (by kernel_rfl) (by kernel_rfl) Tryd.underlying4 rfl hW' rfl hb⟩

theorem again9_holds : Rows.ParseAgainSaid :=
  OpenClaim.holds_of_wide 4 Tryd.f4 rfl rfl rfl rfl rfl rfl rfl ⟨rfl, rfl, rfl, rfl, rfl⟩ rfl rfl rfl rfl rfl (by kernel_rfl) Tryd.func4 (by kernel_rfl)
    (of_decide_eq_true (by kernel_rfl)) (by unfold Func.isWrapper; rw [if_neg (of_decide_eq_false (by kernel_rfl))]; exact ⟨rfl, rfl⟩)
    (fun os started H enc _ => again9_lifted os started H enc)

theorem again9_card : Rows.ParseAgainCardSaid :=
  Claim7.holds_tied_plain_at .later [] [.data, .data, .pinned] true _ false again9_holds (fun _ h => by cases h) (by kernel_rfl) (fun _ h => by cases h) parseAgain_row_tie rfl ⟨rfl, rfl⟩ (by kernel_rfl) rfl
    (fun f fn hf hfn => by
      obtain rfl : f = 4 := Option.some.inj ((show Tryd.prog.funcNamed "taxirank/taxiranklaw9.ParseAgain" = some 4 by kernel_rfl).symm.trans hf) |>.symm
      obtain rfl : fn = Tryd.f4 := (Option.some.inj (Tryd.func4.symm.trans hfn)).symm
      exact ⟨by kernel_rfl, fun j t ht => by
        rw [Tryd.params4] at ht
        have hm : t ∈ [9, 3] := by simpa using Array.mem_of_getElem? ht
        have hall : ([9, 3].all fun u => !Tryd.prog.wantsStandIn u) = true := by kernel_rfl
        exact (show Tryd.prog.wantsStandIn t = false by simpa using List.all_eq_true.1 hall t hm)⟩)
    (by kernel_rfl)
end Go.Proofs.YtgopajddloeclaaDoor
