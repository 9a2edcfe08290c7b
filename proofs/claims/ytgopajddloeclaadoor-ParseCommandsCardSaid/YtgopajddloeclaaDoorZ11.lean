/- Contracts and mathematics: Scan. -/
import Derived.Test.YtgopajddloeclaaDoorZ10
import Derived.Deep.RegionLaw
import Derived.Deep.RegionHeld3
namespace Go.Proofs.YtgopajddloeclaaDoor
open Go.RowKit Go.Lib Go.WideShapes

/-- Where tokens stands: the results' cells, the cursor at j, the row of the tokens so far. -/
structure TS (w wr : World) (s : ByteArray) (j : Nat) (v : Value) (acc : List Tok) : Prop where
  below : Below w.heap.size w wr
  res : wr.heap[w.heap.size]? = some (.cells #[v] 22 (0, 0))
  err : wr.heap[w.heap.size + 1]? = some (.cells #[.int .i64 0] 28 (0, 0))
  cur : Cur wr (w.heap.size + 1 + 1) s j
  row : wr.ownsRow w.heap.size 25 4 v acc.length (tokC acc)

section
variable {w wr w' : World} {s : ByteArray} {j k : Nat} {v : Value} {acc : List Tok}

theorem TS.apart (h : TS w wr s j v acc) {g : Nat} (hv : v.ownBlock = some g) : g ≠ w.heap.size ∧ g ≠ w.heap.size + 1 ∧ g ≠ w.heap.size + 1 + 1 := by
  have hg : ∃ cur, wr.heap[g]? = some (.cells cur 25 (0, 0)) := by
    rcases h.row.2 with ⟨ho, _⟩ | ⟨g', cap, cur, ho, _, hg, _⟩
    · rw [ho] at hv; cases hv
    · rw [ho] at hv; simp [Value.ownBlock] at hv; subst hv; exact ⟨cur, hg⟩
  obtain ⟨cur, hg⟩ := hg
  refine ⟨fun e => ?_, fun e => ?_, fun e => ?_⟩
  · rw [e, h.res] at hg; simp at hg
  · rw [e, h.err] at hg; simp at hg
  · rw [e, show wr.heap[w.heap.size + 1 + 1]? = _ from h.cur] at hg; simp at hg

theorem TS.lt (h : TS w wr s j v acc) : w.heap.size + 1 + 1 < wr.heap.size := h.cur.lt

/-- The cursor went on. -/
theorem TS.moved (h : TS w wr s j v acc) (hc : Cur w' (w.heap.size + 1 + 1) s k) (hg : wr.grownBy w' (some (w.heap.size + 1 + 1))) : TS w w' s k v acc := by
  have hlt := h.lt
  have hz := h.below.size
  have hb : ∀ i, i < wr.heap.size → i ≠ w.heap.size + 1 + 1 → w'.heap[i]? = wr.heap[i]? := fun i hi hne => hg.block i hi (fun e => hne (by simpa using e))
  refine ⟨⟨hg.os.trans h.below.os, hg.tape.trans h.below.tape, hg.output.trans h.below.output, Nat.le_trans hz hg.size, fun i hi => (hb i (by omega) (by omega)).trans (h.below.block i hi)⟩, (hb _ (by omega) (by omega)).trans h.res, (hb _ (by omega) (by omega)).trans h.err, hc, h.row.1, ?_⟩
  rcases h.row.2 with hn | ⟨g, cap, cur, ho, hbg, hgg, rest⟩
  · exact .inl hn
  · have ho2 : v.ownBlock = some g := by rw [ho]; rfl
    exact .inr ⟨g, cap, cur, ho, hbg, (hb g (Array.getElem?_eq_some_iff.1 hgg).1 (h.apart ho2).2.2).trans hgg, rest⟩

theorem TS.drewN (h : TS w wr s j v acc) (n : Nat) : TS w (wr.drewN n) s j v acc := ⟨below_drewN h.below n, h.res, h.err, h.cur, h.row⟩

theorem TS.cells (h : TS w wr s j v acc) : wr.cell? ⟨w.heap.size, 0, none⟩ = some v ∧ wr.cell? ⟨w.heap.size + 1, 0, none⟩ = some (.int .i64 0) ∧ wr.frozen? ⟨w.heap.size, 0, none⟩ = false ∧ wr.frozen? ⟨w.heap.size + 1, 0, none⟩ = false := by
  refine ⟨?_, ?_, ?_, ?_⟩
  · simp [World.cell?, h.res]
  · simp [World.cell?, h.err]
  · simp [World.frozen?, h.res]
  · simp [World.frozen?, h.err]

/-- A token more, stored. -/
theorem TS.feed {w1 : World} {v' : Value} {t : Tok} {x : Obj} (h : TS w wr s j v acc) (hO : w1.ownsRow w.heap.size 25 4 v' (acc.length + 1) (tokC acc ++ [.int .u8 (t.kind.toNat : Nat), .string ⟨t.text.toArray⟩, .int .i64 t.lo, .int .i64 t.hi])) (hg : (wr.alloc x).drew.grownBy w1 v.ownBlock) : TS w (w1.setCell ⟨w.heap.size, 0, none⟩ v') s j v' (acc ++ [t]) := by
  have hlt := h.lt
  have hz := h.below.size
  have hs := hg.size
  have hs1 : (wr.alloc x).drew.heap.size = wr.heap.size + 1 := by show (wr.alloc x).heap.size = _; rw [World.size_alloc]
  rw [hs1] at hs
  have hb : ∀ i, i < wr.heap.size → v.ownBlock ≠ some i → w1.heap[i]? = wr.heap[i]? := fun i hi hne => (hg.block i (by rw [hs1]; omega) (fun e => hne e.symm)).trans (by first | exact heap_alloc_old wr _ i hi | exact heap_alloc_old wr _ hi)
  have hres : w1.heap[w.heap.size]? = some (.cells #[v] 22 (0, 0)) := (hb _ (by omega) (fun e => (h.apart e).1 rfl)).trans h.res
  have herr : w1.heap[w.heap.size + 1]? = _ := (hb _ (by omega) (fun e => (h.apart e).2.1 rfl)).trans h.err
  have hcur : w1.heap[w.heap.size + 1 + 1]? = _ := (hb _ (by omega) (fun e => (h.apart e).2.2 rfl)).trans h.cur
  have hset : ∀ i, i ≠ w.heap.size → (w1.setCell ⟨w.heap.size, 0, none⟩ v').heap[i]? = w1.heap[i]? := fun i hi => Below.heap_setCell _ _ _ _ hi
  have hbel : Below w.heap.size w w1 := ⟨hg.os.trans h.below.os, hg.tape.trans h.below.tape, hg.output.trans h.below.output, by omega, fun i hi => (hb i (by omega) (fun e => by have := (h.row.lt i e).1; omega)).trans (h.below.block i hi)⟩
  refine ⟨hbel.setCell (Nat.le_refl _) _, ?_, (hset _ (by omega)).trans herr, (hset _ (by omega)).trans hcur, ?_⟩
  · rw [setCell_eq_setRow w1 w.heap.size 0 _ _ (0, 0) v' hres]
    exact setRow_heap w1 w.heap.size _ _ _ _ hres
  · rw [show (acc ++ [t]).length = acc.length + 1 by simp, tokC_snoc]
    refine ⟨hO.1, ?_⟩
    rcases hO.2 with hn | ⟨g, cap, cur, ho, hbg, hgg, rest⟩
    · exact .inl hn
    · right
      refine ⟨g, cap, cur, ho, hbg, (hset g (fun e => ?_)).trans hgg, rest⟩
      rw [e, hres] at hgg; simp at hgg
end

theorem TS.held {w wr w1 : World} {s : ByteArray} {j : Nat} {v : Value} {acc : List Tok} {x : Obj} (h : TS w wr s j v acc) (hg : (wr.alloc x).drew.grownBy w1 v.ownBlock) : w1.cell? ⟨w.heap.size, 0, none⟩ = some v ∧ w1.frozen? ⟨w.heap.size, 0, none⟩ = false ∧ w1.cell? ⟨w.heap.size + 1 + 1, 1, none⟩ = some (.int .i64 j) := by
  have hlt := h.lt
  have hs1 : (wr.alloc x).drew.heap.size = wr.heap.size + 1 := by show (wr.alloc x).heap.size = _; rw [World.size_alloc]
  have hb : w1.heap[w.heap.size]? = wr.heap[w.heap.size]? := (hg.block _ (by rw [hs1]; omega) (fun e => (h.apart e.symm).1 rfl)).trans (by first | exact heap_alloc_old wr _ _ (by omega) | exact heap_alloc_old wr _ (by omega))
  have hb2 : w1.heap[w.heap.size + 1 + 1]? = wr.heap[w.heap.size + 1 + 1]? := (hg.block _ (by rw [hs1]; omega) (fun e => (h.apart e.symm).2.2 rfl)).trans (by first | exact heap_alloc_old wr _ _ (by omega) | exact heap_alloc_old wr _ (by omega))
  exact ⟨(World.cell?_of_block (a := ⟨w.heap.size, 0, none⟩) hb).trans h.cells.1, (World.frozen?_of_block (a := ⟨w.heap.size, 0, none⟩) hb).trans h.cells.2.2.1, (World.cell?_of_block (a := ⟨w.heap.size + 1 + 1, 1, none⟩) hb2).trans h.cur.cell.2.1⟩

theorem TS.close {w wr : World} {s : ByteArray} {j : Nat} {v : Value} {acc : List Tok} (h : TS w wr s j v acc) : ((wr.setCell ⟨w.heap.size, 0, none⟩ v).setCell ⟨w.heap.size + 1, 0, none⟩ (.int .i64 0)).cell? ⟨w.heap.size, 0, none⟩ = some v ∧ ((wr.setCell ⟨w.heap.size, 0, none⟩ v).setCell ⟨w.heap.size + 1, 0, none⟩ (.int .i64 0)).cell? ⟨w.heap.size + 1, 0, none⟩ = some (.int .i64 0) ∧
    ((wr.setCell ⟨w.heap.size, 0, none⟩ v).setCell ⟨w.heap.size + 1, 0, none⟩ (.int .i64 0)).ownsRow w.heap.size 25 4 v acc.length (tokC acc) ∧ Below w.heap.size w ((wr.setCell ⟨w.heap.size, 0, none⟩ v).setCell ⟨w.heap.size + 1, 0, none⟩ (.int .i64 0)) := by
  obtain ⟨d0, d1, _, _⟩ := h.cells
  have hne : (⟨w.heap.size, 0, none⟩ : Addr) ≠ ⟨w.heap.size + 1, 0, none⟩ := by intro e; injection e with e1; omega
  refine ⟨?_, World.cell?_setCell_same _ _ _ ((World.cell?_setCell_other _ _ _ _ hne).trans d1), ⟨h.row.1, ?_⟩, (h.below.setCell (Nat.le_refl _) _).setCell (show w.heap.size ≤ w.heap.size + 1 by omega) _⟩
  · rw [World.cell?_setCell_other _ _ _ _ hne.symm, World.cell?_setCell_same _ _ _ d0]
  · rcases h.row.2 with hn | ⟨g, cap, cur, ho, hbg, hgg, rest⟩
    · exact .inl hn
    · have ho2 : v.ownBlock = some g := by rw [ho]; rfl
      refine .inr ⟨g, cap, cur, ho, hbg, ?_, rest⟩
      rw [Below.heap_setCell _ _ _ _ (h.apart ho2).2.1, Below.heap_setCell _ _ _ _ (h.apart ho2).1]
      exact hgg

theorem tk_none {s : ByteArray} {f n j : Nat} (hj : j < s.size) (h : token ((bytes s).drop j) = none) : tk f n ((bytes s).drop j) = none := by
  rw [drop_cons hj] at h ⊢
  rw [tk, h]

theorem tk_step {s : ByteArray} {f j : Nat} {k : UInt8} {t r : Bs} (hj : j < s.size) (h : token ((bytes s).drop j) = some (k, t, r)) : tk (f + 1) s.size ((bytes s).drop j) = ((sk r 0).bind (tk f s.size)).map (⟨k, t, j, s.size - r.length⟩ :: ·) := by
  have e : s.size - ((bytes s).drop j).length = j := by rw [List.length_drop, bytes_len]; omega
  rw [drop_cons hj] at h e ⊢
  rw [tk, h]
  show (toks (f + 1) s.size r).map _ = _
  rw [toks_tk, e]

theorem tk_end {s : ByteArray} {f n : Nat} : tk f n ((bytes s).drop s.size) = some [] := by
  rw [List.drop_eq_nil_of_le (by rw [bytes_len]; omega)]; rfl

theorem catch_ts (b : Nat) (x0 x1 : Value) (u : TypeId) (pv : Value) (older : List PanicEntry) (w : World)
    (c0 : w.cell? ⟨b, 0, none⟩ = some x0) (c1 : w.cell? ⟨b + 1, 0, none⟩ = some x1) (f0 : w.frozen? ⟨b, 0, none⟩ = false) (f1 : w.frozen? ⟨b + 1, 0, none⟩ = false) :
    CallsD Tryd.prog 54 #[.pointer (some ⟨b, 0, none⟩), .pointer (some ⟨b + 1, 0, none⟩)] (.panicking ({ v := .iface u pv, recovered := false } :: older)) w fun e u' w' =>
      e = .returned (.tuple #[]) ∧ u' = .panicking ({ v := .iface u pv, recovered := true } :: older) ∧ w'.cell? ⟨b, 0, none⟩ = some (.slice none 0 0) ∧ w'.cell? ⟨b + 1, 0, none⟩ = some (.int .i64 2) ∧ ∀ w0 : World, w0.heap.size ≤ b → Below w0.heap.size w0 w → Below w0.heap.size w0 w' := by
  refine (catch_panicking b x0 x1 u pv older w c0 c1 f0 f1).mono ?_
  rintro e u' w' ⟨rfl, rfl, rfl⟩
  have hne : (⟨b, 0, none⟩ : Addr) ≠ ⟨b + 1, 0, none⟩ := by intro e; injection e with e1; omega
  refine ⟨rfl, rfl, ?_, ?_, fun w0 hb0 hb => (hb.setCell hb0 _).setCell (show w0.heap.size ≤ b + 1 by omega) _⟩
  · rw [World.cell?_setCell_other _ _ _ _ hne.symm, World.cell?_setCell_same _ _ _ c0]
  · exact World.cell?_setCell_same _ _ _ ((World.cell?_setCell_other _ _ _ _ hne).trans c1)

/-- What tokens leaves. -/
def Scanned (w : World) (R : Option (List Tok)) (e : Ending) (w' : World) : Prop := (∀ ts, R = some ts → ∃ v, e = .returned (.tuple #[v, .int .i64 0]) ∧ w'.ownsRow w.heap.size 25 4 v ts.length (tokC ts)) ∧ (R = none → e = .returned (.tuple #[.slice none 0 0, .int .i64 2])) ∧ Below w.heap.size w w'

theorem ts_start (w : World) (s : ByteArray) : TS w (((w.alloc (.cells #[.slice none 0 0] 22)).alloc (.cells #[.int .i64 0] 28)).alloc (.cells #[.string s, .int .i64 0] 99)) s 0 (.slice none 0 0) [] := by
  have e1 := World.size_alloc w (.cells #[.slice none 0 0] 22)
  have e2 := World.size_alloc (w.alloc (.cells #[.slice none 0 0] 22)) (.cells #[.int .i64 0] 28)
  have h1 := heap_alloc_new w (.cells #[.slice none 0 0] 22)
  have h2 := heap_alloc_new (w.alloc (.cells #[.slice none 0 0] 22)) (.cells #[.int .i64 0] 28)
  have h3 := heap_alloc_new ((w.alloc (.cells #[.slice none 0 0] 22)).alloc (.cells #[.int .i64 0] 28)) (.cells #[.string s, .int .i64 0] 99)
  rw [e1] at h2
  rw [e2, e1] at h3
  refine ⟨((((Below.refl w.heap.size w).alloc (Nat.le_refl _) _).alloc (by rw [e1]; omega) _).alloc (by rw [e2, e1]; omega) _), ?_, ?_, h3, World.ownsRow_nil _ _ _ _⟩
  · rw [show ∀ (W : World) (o : Obj) (i : Nat), i < W.heap.size → (W.alloc o).heap[i]? = W.heap[i]? from fun W o i hi => by first | exact heap_alloc_old W _ i hi | exact heap_alloc_old W _ hi]
    · rw [show ∀ (W : World) (o : Obj) (i : Nat), i < W.heap.size → (W.alloc o).heap[i]? = W.heap[i]? from fun W o i hi => by first | exact heap_alloc_old W _ i hi | exact heap_alloc_old W _ hi]
      · exact h1
      · rw [e1]; omega
    · rw [e2, e1]; omega
  · rw [show ∀ (W : World) (o : Obj) (i : Nat), i < W.heap.size → (W.alloc o).heap[i]? = W.heap[i]? from fun W o i hi => by first | exact heap_alloc_old W _ i hi | exact heap_alloc_old W _ hi]
    · exact h2
    · rw [e2, e1]; omega

set_option maxRecDepth 100000 in
set_option maxHeartbeats 8000000 in
theorem tokens_any (s : ByteArray) (m : Int) (w : World) (hs : s.size ≤ 2000) (hm : w.cell? ⟨2, 0, none⟩ = some (.int .i64 m)) :
    Calls Tryd.prog 29 #[.string s] w (Scanned w (tokens (bytes s))) := by
  have hmf : ∀ (fn : Fn) (first cap : Array Value) (w : World), (Instr.makeFunc fn first cap).run Tryd.prog w = .ok (.func fn first cap) w := fun _ _ _ _ => rfl
  have HI := Lib.hid (fun W => Tryd.strings_IndexByte s 0 W)
  rw [show (0 : Int).toNat.toUInt8 = 0 from rfl] at HI
  have HM := Lib.hid hm
  have HW0 := Lib.hid (World.block_lt_of_cell? w ⟨2, 0, none⟩ hm)
  obtain ⟨i0, hi0, y0, y1, y2⟩ := info_parts Tryd.info25
  clear hm
  rcases idx_zero (bytes s) with ⟨hz1, hz2⟩ | ⟨hz1, hz2⟩
  · have hd : decide (indexByte s.data.toList 0 < 0) = false := decide_eq_false (by have h : (0 : Int) ≤ indexByte s.data.toList 0 := hz2; omega)
    have hR : tokens (bytes s) = none := by unfold tokens; rw [if_pos hz1]
    rw [hR]
    obtain ⟨x, hx⟩ : ∃ x, x = indexByte s.data.toList 0 := ⟨_, rfl⟩
    rw [← hx] at HI hd
    clear hz1 hz2 hR hx
    go_enter_defers Tryd.func29, Tryd.ntmps29
    go_wp2_with fail
    refine (HI.out _).mono ?_; rintro e w' ⟨rfl, rfl⟩
    go_wp2_with fail
    refine (demand_false _).mono ?_; rintro e w' ⟨rfl, rfl⟩
    go_wp2_with fail
    refine leaves_cons (f := 54) (args := #[.pointer (some ⟨w.heap.size, 0, none⟩), .pointer (some ⟨w.heap.size + 1, 0, none⟩)]) (by simp) (by simp [go_sem]) ?_
    refine (catch_ts w.heap.size (.slice none 0 0) (.int .i64 0) _ _ _ _ (by simp [go_sem]) (by simp [go_sem]) (by simp [go_sem]) (by simp [go_sem])).mono ?_
    rintro e u' w8 ⟨rfl, rfl, r0, r1, hB8⟩
    simp [Leaves, settle, results, Tryd.results29, go_sem, r0, r1]
    exact ⟨fun ts h => (by cases h), fun _ => rfl, hB8 w (Nat.le_refl _) (((Below.refl _ _).alloc (Nat.le_refl _) _).alloc (by simp) _)⟩
  · have hR : tokens (bytes s) = (sk (bytes s) 0).bind (tk s.size s.size) := by unfold tokens; rw [if_neg hz1, bytes_len, toks_tk]
    rw [hR]
    have hz2 : indexByte s.data.toList 0 = -1 := hz2
    rw [hz2] at HI
    obtain ⟨R, hRR⟩ : ∃ R, R = (sk (bytes s) 0).bind (tk s.size s.size) := ⟨_, rfl⟩
    rw [← hRR]
    have HR := Lib.hid hRR
    clear hz1 hR hRR
    clear hz2
    go_enter_defers Tryd.func29, Tryd.ntmps29
    go_wp2_with fail
    refine (HI.out _).mono ?_; rintro e w' ⟨rfl, rfl⟩
    go_wp2_with fail
    refine (demand_true _).mono ?_; rintro e w' ⟨rfl, rfl⟩
    go_wp2_with fail
    have hT3 : TS w (((w.alloc (.cells #[.slice none 0 0] 22)).alloc (.cells #[.int .i64 0] 28)).alloc (.cells #[.string s, .int .i64 0] 99)) s 0 (.slice none 0 0) [] := ts_start w s
    have hsl := bytes_len s
    generalize ((w.alloc (.cells #[.slice none 0 0] 22)).alloc (.cells #[.int .i64 0] 28)).alloc (.cells #[.string s, .int .i64 0] 99) = w3 at hT3 ⊢
    have HSK := Lib.hid (skip_any (w.heap.size + 1 + 1) 0 s w3 hT3.cur (by omega) hs)
    rw [List.drop_zero] at HSK
    have HT3 := Lib.hid hT3
    clear hT3
    refine HSK.out.mono ?_; rintro e w4 ⟨hS, hN⟩
    cases hsk : sk (bytes s) 0 with
    | none =>
      obtain ⟨rfl, ⟨j4, hC4⟩, hG4⟩ := hN hsk
      have HT4 := Lib.hid (HT3.out.moved hC4 hG4)
      have HRN := Lib.hid (show R = none by rw [HR.out, hsk]; rfl)
      clear hC4 hG4 hS hN hsk hsl
      go_wp2_with fail
      refine leaves_cons (f := 54) (args := #[.pointer (some ⟨w.heap.size, 0, none⟩), .pointer (some ⟨w.heap.size + 1, 0, none⟩)]) (by simp) (by simp [go_sem]) ?_
      refine (catch_ts w.heap.size _ _ _ _ _ _ HT4.out.cells.1 HT4.out.cells.2.1 HT4.out.cells.2.2.1 HT4.out.cells.2.2.2).mono ?_
      rintro e u' w8 ⟨rfl, rfl, r0, r1, hB8⟩
      simp [Leaves, settle, results, Tryd.results29, go_sem, r0, r1]
      rw [HRN.out]
      exact ⟨fun ts h => (by cases h), fun _ => rfl, hB8 w (Nat.le_refl _) HT4.out.below⟩
    | some r =>
      obtain ⟨rfl, hC4, hG4⟩ := hS r hsk
      have HT4 := Lib.hid (HT3.out.moved hC4 hG4)
      obtain ⟨d, hd, hdl⟩ := sk_sub _ _ hsk
      obtain ⟨b1, b2, b3⟩ := drop_back (s := s) (j := 0) (k := d) (r := r) (by rw [List.drop_zero]; exact hd) (by rw [List.drop_zero]; exact hdl) (by omega)
      rw [b1] at HT4 b2
      have HRS := Lib.hid (show (tk s.size s.size ((bytes s).drop (0 + d))).map (([] : List Tok) ++ ·) = R by
        rw [HR.out, hsk, b2]
        show _ = tk s.size s.size r
        cases tk s.size s.size r <;> simp)
      have hd3 : 0 + d ≤ s.size := b3
      clear hC4 hG4 hS hN hsk hd hdl b1 b2 b3 hsl HSK HT3 HR
      go_wp2_with fail
      go_loopg [5] (s.size - (0 + d)) (fun g v0 wr => ∃ (j f : Nat) (acc : List Tok) (v : Value), j ≤ s.size ∧ g = s.size - j ∧ acc.length ≤ j ∧ s.size - j ≤ f ∧ TS w wr s j v acc ∧ (tk f s.size ((bytes s).drop j)).map (acc ++ ·) = R)
      case atStart => exact ⟨0 + d, s.size, [], _, hd3, rfl, Nat.zero_le _, by omega, HT4.out, HRS.out⟩
      case round =>
        obtain ⟨j, f, acc, v, hj, hg, hal, hf, hT, hR⟩ := hrel
        have HT := Lib.hid hT; have HR := Lib.hid hR; have HGK := Lib.hid hg
        clear hT hR hg HT4 HRS
        by_cases hlt : j < s.size
        · go_wp2_with fail
          refine (more_yes (w.heap.size + 1 + 1) j s _ HT.out.cur hlt).mono ?_; rintro e w5 ⟨rfl, n5, rfl⟩
          obtain ⟨c0, c1, f1⟩ := HT.out.cur.cell
          have HT5 := Lib.hid (HT.out.drewN n5)
          clear HT
          go_wp2_with fail
          refine (token_any (w.heap.size + 1 + 1) j m s _ HT5.out.cur hlt hs ((HT5.out.below.cell (p := ⟨2, 0, none⟩) HW0.out).trans HM.out) (by have := HW0.out; omega)).mono ?_; rintro e w6 ⟨hS, hN⟩
          clear c0 c1 f1
          cases htk : token ((bytes s).drop j) with
          | none =>
            obtain ⟨rfl, ⟨j6, hC6⟩, hG6⟩ := hN htk
            have HT6 := Lib.hid (HT5.out.moved hC6 hG6)
            have HRN := Lib.hid (show R = none by rw [← HR.out, tk_none hlt htk]; rfl)
            clear hC6 hG6 hS hN htk HT5
            go_wp2_with fail
            refine leaves_cons (f := 54) (args := #[.pointer (some ⟨w.heap.size, 0, none⟩), .pointer (some ⟨w.heap.size + 1, 0, none⟩)]) (by simp) (by simp [go_sem]) ?_
            refine (catch_ts w.heap.size _ _ _ _ _ _ HT6.out.cells.1 HT6.out.cells.2.1 HT6.out.cells.2.2.1 HT6.out.cells.2.2.2).mono ?_
            rintro e u' w8 ⟨rfl, rfl, r0, r1, hB8⟩
            simp [Leaves, settle, results, Tryd.results29, go_sem, r0, r1]
            rw [HRN.out]
            exact ⟨fun ts h => (by cases h), fun _ => rfl, hB8 w (Nat.le_refl _) HT6.out.below⟩
          | some q =>
            obtain ⟨k, t, r⟩ := q
            obtain ⟨rfl, hC6, hG6⟩ := hS k t r htk
            obtain ⟨d, hd0, hd, hdl⟩ := token_sub htk
            obtain ⟨b1, b2, b3⟩ := drop_back hd hdl hj
            obtain ⟨f', rfl⟩ : ∃ f', f = f' + 1 := ⟨f - 1, by omega⟩
            have hRS := HR.out
            rw [tk_step hlt htk, b1, ← b2, b1] at hRS
            rw [b1] at hC6
            obtain ⟨j2, hj2⟩ : ∃ j2, j2 = j + d := ⟨_, rfl⟩
            rw [← hj2] at hRS hC6 b3
            have hj3 : j + 1 ≤ j2 := by omega
            have HRS := Lib.hid hRS
            have HT6 := Lib.hid (HT5.out.moved hC6 hG6)
            obtain ⟨va, vc, rfl⟩ := ownsRow_form HT6.out.row
            obtain ⟨d0, d1, d2, d3⟩ := HT6.out.cells
            obtain ⟨c0, c1, f1⟩ := hC6.cell
            have hlt6 := HT6.out.lt
            clear hC6 hG6 hS hN htk hd hdl b1 b2 hj2 hRS HR HT5

            go_wp2_with fail
            have dA := fun (c : Obj) => Lib.cell?_alloc_some c d0
            have cA := fun (c : Obj) => Lib.cell?_alloc_some c c1
            refine wp_region_noPanic ?_
            go_region_law (refine step_append_own rfl (.tmp 31) (.tmp 40) 22 rfl w.heap.size 25 i0 (.agg #[.int .u8 0, .string { data := #[] }, .int .i64 0, .int .i64 0]) 4 40 Tryd.underlying22 hi0 y0 y1 y2 rfl (by decide) (.slice va acc.length vc) acc.length (tokC acc) (by simp [Act.eval]) (HT6.out.row.drew.alloc _) ⟨w6.heap.size, 0, none⟩ 1 1 [.int .u8 (k.toNat : Nat), .string ⟨t.toArray⟩, .int .i64 j, .int .i64 j2] (by simp [Act.eval]) rfl ?c1 ?c2 ?c3 ?c4 ?c5 ?_; (case c1 => (intro a u h; rw [Go.WideShapes.add_plain, Nat.zero_add, ← h]; exact (World.cell?_alloc_new w6 _ _ a).trans (by simp))); (case c2 => (intro u hu; simp at hu; rcases hu with rfl | rfl | rfl | rfl <;> rfl)); (case c3 => (unfold maxLen; omega)); (case c4 => omega); (case c5 => (first | omega | (simp; omega))); intro v7 w7 hO7 hg7; have HO7 := Lib.hid hO7; have HG7 := Lib.hid hg7; obtain ⟨va7, vc7, rfl⟩ := ownsRow_form hO7; obtain ⟨e0, e1, S1⟩ := HT6.out.held hg7; clear hO7 hg7)
            all_goals refine NoPanic.normal ?_
            all_goals
              have HT7 := Lib.hid (HT6.out.feed (t := ⟨k, t, j, j2⟩) HO7.out HG7.out)
              clear HT6 d0 d1 d2 d3 c0 c1 f1 dA cA e0 e1 S1 HO7 HG7
              go_wp2_with fail
              have HSK := Lib.hid (skip_any (w.heap.size + 1 + 1) j2 s _ HT7.out.cur b3 hs)
              refine HSK.out.mono ?_; rintro e w9 ⟨hS, hN⟩
              cases hsk : sk ((bytes s).drop j2) 0 with
              | none =>
                obtain ⟨rfl, ⟨j4, hC4⟩, hG4⟩ := hN hsk
                have HT9 := Lib.hid (HT7.out.moved hC4 hG4)
                have HRN := Lib.hid (show R = none by rw [← HRS.out, hsk]; rfl)
                clear hC4 hG4 hS hN hsk HT7 HSK
                go_wp2_with fail
                refine leaves_cons (f := 54) (args := #[.pointer (some ⟨w.heap.size, 0, none⟩), .pointer (some ⟨w.heap.size + 1, 0, none⟩)]) (by simp) (by simp [go_sem]) ?_
                refine (catch_ts w.heap.size _ _ _ _ _ _ HT9.out.cells.1 HT9.out.cells.2.1 HT9.out.cells.2.2.1 HT9.out.cells.2.2.2).mono ?_
                rintro e u' w8 ⟨rfl, rfl, r0, r1, hB8⟩
                simp [Leaves, settle, results, Tryd.results29, go_sem, r0, r1]
                rw [HRN.out]
                exact ⟨fun ts h => (by cases h), fun _ => rfl, hB8 w (Nat.le_refl _) HT9.out.below⟩
              | some r3 =>
                obtain ⟨rfl, hC4, hG4⟩ := hS r3 hsk
                have HT9 := Lib.hid (HT7.out.moved hC4 hG4)
                obtain ⟨d9, hd9, hdl9⟩ := sk_sub _ _ hsk
                obtain ⟨b1, b2, b4⟩ := drop_back hd9 hdl9 b3
                rw [b1] at HT9 b2
                have HRR := Lib.hid (show (tk f' s.size ((bytes s).drop (j2 + d9))).map ((acc ++ [⟨k, t, j, j2⟩]) ++ ·) = R by
                  rw [← HRS.out, hsk, b2]
                  show _ = Option.map _ (Option.map _ (tk f' s.size r3))
                  cases tk f' s.size r3 <;> simp)
                clear hC4 hG4 hS hN hsk hd9 hdl9 b1 b2 HT7 HSK HRS
                go_wp2_with fail
                go_roundg (s.size - (j2 + d9))
                case measure => have := HGK.out; omega
                case rel => exact ⟨j2 + d9, f', _, _, b4, rfl, by rw [List.length_append]; simp; omega, by omega, HT9.out, HRR.out⟩
        · obtain rfl : j = s.size := by omega
          have HRE := Lib.hid (show R = some acc by rw [← HR.out, tk_end]; simp)
          go_wp2_with fail
          refine (more_no (w.heap.size + 1 + 1) _ s _ HT.out.cur (by omega)).mono ?_; rintro e w5 ⟨rfl, n5, rfl⟩
          obtain ⟨va, vc, rfl⟩ := ownsRow_form HT.out.row
          obtain ⟨d0, d1, d2, d3⟩ := HT.out.cells
          obtain ⟨r0, r1, hO, hB⟩ := HT.out.close
          have HO := Lib.hid hO; have HB := Lib.hid hB
          clear HR hO hB
          go_wp2_with fail
          refine leaves_cons (f := 54) (args := #[.pointer (some ⟨w.heap.size, 0, none⟩), .pointer (some ⟨w.heap.size + 1, 0, none⟩)]) (by simp) (by simp [go_sem]) ?_
          refine (catch_idle w.heap.size _).mono ?_
          rintro e u' w'' ⟨rfl, rfl, rfl⟩
          simp [Leaves, settle, results, Tryd.results29, go_sem, r0, r1]
          rw [HRE.out]
          exact ⟨fun ts h => (by cases h; exact ⟨_, rfl, HO.out⟩), fun h => (by cases h), below_drewN HB.out _⟩
end Go.Proofs.YtgopajddloeclaaDoor
