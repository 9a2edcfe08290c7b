/- Contracts and mathematics: Quote. -/
import Derived.Test.YtgopajddloeclaaDoorZ6
import Derived.Lib.BufferRead
import Derived.Deep.Cut
namespace Go.Proofs.YtgopajddloeclaaDoor
open Go.RowKit Go.Lib Go.WideShapes

theorem Tryd.info5 : (Tryd.prog.info? 5).map (fun i => (i.zero, i.size, i.bytes)) = some (some (.int .u8 0), 1, 1) := by kernel_rfl

def byteC (l : Bs) : List Value := l.map fun b => Value.int .u8 (b.toNat : Int)
theorem byteC_len (l : Bs) : (byteC l).length = l.length := by simp [byteC]
theorem byteC_snoc (l : Bs) (b : UInt8) : byteC (l ++ [b]) = byteC l ++ [.int .u8 (b.toNat : Int)] := by simp [byteC]

/-- The cursor in block p, and the row v of the bytes l, which the call made. -/
structure Q (w wr : World) (p : Nat) (s : ByteArray) (j : Nat) (v : Value) (l : Bs) : Prop where
  cur : Cur wr p s j
  grow : w.grownBy wr (some p)
  row : wr.ownsRow w.heap.size 5 1 v l.length (byteC l)
  lt : p < w.heap.size

section
variable {w wr : World} {p j : Nat} {s : ByteArray} {v : Value} {l : Bs}

theorem Q.start (h : Cur w p s j) : Q w w p s j (.slice none 0 0) [] := ⟨h, grow_refl _ _, World.ownsRow_nil _ _ _ _, h.lt⟩

theorem Q.drewN (h : Q w wr p s j v l) (n : Nat) : Q w (wr.drewN n) p s j v l := ⟨h.cur, grow_trans h.grow (grow_drewN _ _ _), h.row, h.lt⟩

theorem Q.set (h : Q w wr p s j v l) {z : Int} {k : Nat} (hz : z = (k : Int)) : Q w (wr.setCell ⟨p, 1, none⟩ (.int .i64 z)) p s k v l := by
  subst hz
  obtain ⟨h1, h2⟩ := h.cur.set k
  refine ⟨h1, grow_trans h.grow h2, ?_, h.lt⟩
  refine h.row.kept (row := some p) h2 ?_
  cases hv : v.ownBlock with
  | none => exact .inl rfl
  | some g => exact .inr (fun e => by have := (h.row.lt g hv).1; have := h.lt; simp at e; omega)

/-- A byte more. -/
theorem Q.feed (h : Q w wr p s j v l) {w1 : World} {v' : Value} {b : UInt8} {x : Obj} (hO : w1.ownsRow w.heap.size 5 1 v' (l.length + 1) (byteC l ++ [.int .u8 (b.toNat : Int)])) (hg : (wr.alloc x).grownBy w1 v.ownBlock) : Q w w1 p s j v' (l ++ [b]) := by
  have hz := h.grow.size
  have hp := h.cur.lt
  have hb : ∀ k, k < wr.heap.size → v.ownBlock ≠ some k → w1.heap[k]? = wr.heap[k]? := fun k hk hne => (hg.block k (by rw [World.size_alloc]; omega) (fun e => hne e.symm)).trans (by first | exact heap_alloc_old wr _ k hk | exact heap_alloc_old wr _ hk)
  have hs := hg.size
  rw [World.size_alloc] at hs
  refine ⟨(hb p hp (fun e => by have := (h.row.lt p e).1; have := h.lt; omega)).trans h.cur, ?_, by rw [List.length_append, byteC_snoc]; exact hO, h.lt⟩
  exact ⟨hg.os.trans h.grow.os, hg.tape.trans h.grow.tape, hg.output.trans h.grow.output, by omega, fun k hk hne => (hb k (by omega) (fun e => by have := (h.row.lt k e).1; omega)).trans (h.grow.block k hk hne)⟩

theorem Q.text (h : Q w wr p s j v l) : (convert 52 9 v).run Tryd.prog wr = .ok (.string ⟨l.toArray⟩) wr := by
  rcases h.row.2 with ⟨rfl, h0⟩ | ⟨g, cap, cur, rfl, hb, hg, hn, hc, hcs, ht⟩
  · rw [List.eq_nil_of_length_eq_zero h0]
    exact run_convert_nil_bytes wr _ _ _ 0 Tryd.underlying52 Tryd.underlying5 Tryd.underlying9
  · refine run_convert_bytes_back wr _ _ _ ⟨g, 0, none⟩ cap l Tryd.underlying52 Tryd.underlying5 Tryd.underlying9 fun k hk => ?_
    rw [Go.WideShapes.add_plain, Nat.zero_add]
    refine (h.row.cellAt k (by rw [Nat.mul_one]; exact hk)).trans ?_
    simp [byteC, List.getElem?_eq_getElem hk]

theorem more_q (h : Q w wr p s j v l) (b : Bool) (hb : decide (j < s.size) = b) :
    Calls Tryd.prog 58 #[.pointer (some ⟨p, 0, none⟩)] wr fun e w' => e = .returned (.bool b) ∧ Q w w' p s j v l := by
  cases b with
  | true => exact (more_yes p j s wr h.cur (by simpa using hb)).mono fun _ _ ⟨he, n, hw⟩ => ⟨he, by rw [hw]; exact h.drewN n⟩
  | false => exact (more_no p j s wr h.cur (by simpa using hb)).mono fun _ _ ⟨he, n, hw⟩ => ⟨he, by rw [hw]; exact h.drewN n⟩

theorem peek_q (h : Q w wr p s j v l) (k : Nat) (hs : s.size ≤ 2000) (hk : j + k ≤ 100000) :
    Calls Tryd.prog 82 #[.pointer (some ⟨p, 0, none⟩), .int .i64 k] wr fun e w' => e = .returned (.int .u8 (pb s (j + k))) ∧ Q w w' p s j v l :=
  (peek_any p j k s wr h.cur hs hk).mono fun _ _ ⟨he, n, hw⟩ => ⟨he, by rw [hw]; exact h.drewN n⟩
end

/-- What stood between marks is told, or it panics. -/
def OptQ (p : Nat) (s : ByteArray) (w : World) (R : Option (Bs × Bs)) (e : Ending) (w' : World) : Prop := (∀ t r, R = some (t, r) → Moved p s w (s.size - r.length) (.string ⟨t.toArray⟩) e w') ∧ (R = none → Stuck p s w e w')

theorem OptQ.some {p : Nat} {s : ByteArray} {w w' : World} {t r : Bs} {e : Ending} (h : Moved p s w (s.size - r.length) (.string ⟨t.toArray⟩) e w') : OptQ p s w (some (t, r)) e w' := ⟨fun _ _ hr => (by cases hr; exact h), fun hr => (by cases hr)⟩
theorem OptQ.none {p : Nat} {s : ByteArray} {w w' : World} {e : Ending} (h : Stuck p s w e w') : OptQ p s w .none e w' := ⟨fun _ _ hr => (by cases hr), fun _ => h⟩

theorem stuck_q {w wr : World} {p j : Nat} {s : ByteArray} {v : Value} {l : Bs} (h : Q w wr p s j v l) : Stuck p s w (.panicked [{ v := .iface 28 (.int .i64 2), recovered := false }]) wr := ⟨rfl, ⟨j, h.cur⟩, h.grow⟩

/-- What is to come, with what was gathered. -/
def rest (m : Nat) (esc : Bool) (s : ByteArray) (j : Nat) (l : Bs) : Option (Bs × Bs) := (qt (UInt8.ofNat m) esc ((bytes s).drop j)).map fun q => (l ++ q.1, q.2)

theorem map_map (o : Option (Bs × Bs)) (l : Bs) (b : UInt8) : (o.map fun q => (b :: q.1, q.2)).map (fun q => (l ++ q.1, q.2)) = o.map fun q => ((l ++ [b]) ++ q.1, q.2) := by
  cases o <;> simp

theorem qt_one (mark : UInt8) (esc : Bool) (x : UInt8) : qt mark esc [x] = if esc = true ∧ x = 92 then none else if x = mark then some ([], []) else (qt mark esc []).map fun p => (x :: p.1, p.2) := rfl
theorem qt_two (mark : UInt8) (esc : Bool) (x y : UInt8) (r : Bs) : qt mark esc (x :: y :: r) = if esc = true ∧ x = 92 then (qt mark esc r).map fun p => (escd y :: p.1, p.2) else if x = mark then (if y = mark then (qt mark esc r).map fun p => (x :: p.1, p.2) else some ([], y :: r)) else (qt mark esc (y :: r)).map fun p => (x :: p.1, p.2) := rfl

section
variable {m j : Nat} {esc : Bool} {s : ByteArray} {l : Bs} (hm : m < 256)

theorem rest_end (h : s.size ≤ j) : rest m esc s j l = none := by
  unfold rest
  rw [List.drop_eq_nil_of_le (by rw [bytes_len]; exact h)]; rfl

theorem rest_esc (hj : j + 1 < s.size) (h : pb s j = 92) : rest m true s j l = rest m true s (j + 2) (l ++ [escd (UInt8.ofNat (pb s (j + 1)))]) := by
  unfold rest
  rw [← map_map, drop_cons (show j < s.size by omega), drop_cons hj, h, qt_two, if_pos ⟨rfl, rfl⟩]

theorem rest_esc_end (hj : j + 1 = s.size) (h : pb s j = 92) : rest m true s j l = none := by
  unfold rest
  rw [drop_cons (show j < s.size by omega), List.drop_eq_nil_of_le (by rw [bytes_len]; omega), h, qt_one, if_pos ⟨rfl, rfl⟩]
  rfl

include hm in
theorem mark_eq : UInt8.ofNat (pb s j) = UInt8.ofNat m ↔ pb s j = m := ofNat_eq s j m hm

theorem no_esc (he : ¬ (esc = true ∧ pb s j = 92)) : ¬ (esc = true ∧ UInt8.ofNat (pb s j) = 92) := fun e => he ⟨e.1, (ofNat_eq s j 92 (by decide)).1 e.2⟩

include hm in
theorem rest_two (hj : j < s.size) (he : ¬ (esc = true ∧ pb s j = 92)) (h : pb s j = m) (h2 : pb s (j + 1) = m) (hm0 : 0 < m) : j + 1 < s.size ∧ rest m esc s j l = rest m esc s (j + 2) (l ++ [UInt8.ofNat (pb s j)]) := by
  have hj1 : j + 1 < s.size := by
    by_cases h3 : j + 1 < s.size
    · exact h3
    · rw [pb_out s _ (by omega)] at h2; omega
  refine ⟨hj1, ?_⟩
  unfold rest
  rw [← map_map, drop_cons hj, drop_cons hj1, qt_two, if_neg (no_esc he), if_pos ((mark_eq hm).2 h), if_pos ((mark_eq hm).2 h2)]

include hm in
theorem rest_one (hj : j < s.size) (he : ¬ (esc = true ∧ pb s j = 92)) (h : pb s j = m) (h2 : ¬ pb s (j + 1) = m) : rest m esc s j l = some (l, (bytes s).drop (j + 1)) := by
  unfold rest
  by_cases hj1 : j + 1 < s.size
  · rw [drop_cons hj, drop_cons hj1, qt_two, if_neg (no_esc he), if_pos ((mark_eq hm).2 h), if_neg (mt (mark_eq hm).1 h2)]
    simp
  · rw [drop_cons hj, List.drop_eq_nil_of_le (by rw [bytes_len]; omega), qt_one, if_neg (no_esc he), if_pos ((mark_eq hm).2 h)]
    simp

include hm in
theorem rest_on (hj : j < s.size) (he : ¬ (esc = true ∧ pb s j = 92)) (h : ¬ pb s j = m) : rest m esc s j l = rest m esc s (j + 1) (l ++ [UInt8.ofNat (pb s j)]) := by
  unfold rest
  by_cases hj1 : j + 1 < s.size
  · rw [← map_map, drop_cons hj, drop_cons hj1, qt_two, if_neg (no_esc he), if_neg (mt (mark_eq hm).1 h)]
  · rw [← map_map, drop_cons hj, List.drop_eq_nil_of_le (by rw [bytes_len]; omega), qt_one, if_neg (no_esc he), if_neg (mt (mark_eq hm).1 h)]
end

set_option maxRecDepth 100000 in
set_option maxHeartbeats 8000000 in
theorem quoted_any (m p i : Nat) (esc : Bool) (s : ByteArray) (w : World) (h : Cur w p s i) (hi : i < s.size) (hs : s.size ≤ 2000) (hm : 0 < m ∧ m < 92) :
    Calls Tryd.prog 83 #[.pointer (some ⟨p, 0, none⟩), .int .u8 m, .bool esc] w (OptQ p s w (qt (UInt8.ofNat m) esc ((bytes s).drop (i + 1)))) := by
  obtain ⟨i0, hi0, y0, y1, y2⟩ := info_parts Tryd.info5
  obtain ⟨R, hR⟩ : ∃ R, R = qt (UInt8.ofNat m) esc ((bytes s).drop (i + 1)) := ⟨_, rfl⟩
  rw [← hR]
  obtain ⟨c0, c1, f1⟩ := h.cell
  have HR := Lib.hid (show rest m esc s (i + 1) [] = R by rw [hR]; unfold rest; simp)
  have HQ0 := Lib.hid ((Q.start h).set (show (i : Int) + 1 = ((i + 1 : Nat) : Int) by omega))
  have hi1 : (i : Int) < s.size := by omega
  clear h hR
  go_enter Tryd.func83, Tryd.ntmps83
  go_wp2_with fail
  clear c0 c1 f1
  go_loopg [7] (s.size - i - 1) (fun g v wr => ∃ (j : Nat) (l : Bs), i < j ∧ j ≤ s.size ∧ l.length ≤ j ∧ g = s.size - j ∧ Q w wr p s j v l ∧ rest m esc s j l = R)
  case atStart => exact ⟨i + 1, [], by omega, by omega, by simp, by omega, HQ0.out, HR.out⟩
  case round =>
    obtain ⟨j, l, hij, hj, hl, hg, hQ, hB⟩ := hrel
    have HQ := Lib.hid hQ; have HB := Lib.hid hB; have HGK := Lib.hid hg
    clear hQ hB hg HQ0
    by_cases hlt : j < s.size
    · have hlt' : (j : Int) < s.size := by omega
      have HPB := Lib.hid (pb_at s j hlt)
      go_wp2_with fail
      refine (more_q HQ.out true (by simpa using hlt)).mono ?_; rintro e w1 ⟨rfl, hQ1⟩
      have HQ1 := Lib.hid hQ1
      clear HQ
      obtain ⟨c0, c1, f1⟩ := hQ1.cur.cell
      clear hQ1
      go_wp2_with fail
      refine (demand_true _).mono ?_; rintro e w' ⟨rfl, rfl⟩
      go_wp2_with fail
      go_quiet (fail)
      rw [HPB.out]
      have HQ2 := Lib.hid (HQ1.out.drewN nq)
      have d0 : (w1.drewN nq).cell? ⟨p, 0, none⟩ = some (.string s) := c0
      have d1 : (w1.drewN nq).cell? ⟨p, 1, none⟩ = some (.int .i64 j) := c1
      have d2 : (w1.drewN nq).frozen? ⟨p, 1, none⟩ = false := f1
      clear HQ1 c0 c1 f1
      generalize w1.drewN nq = w2 at HQ2 d0 d1 d2 ⊢
      have hx8 := pb_lt s j
      obtain ⟨x, hx⟩ : ∃ x, x = pb s j := ⟨_, rfl⟩
      rw [← hx] at hx8 ⊢
      have HX := Lib.hid hx
      clear hx
      obtain ⟨va, vc, rfl⟩ := ownsRow_form HQ2.out.row
      have hzz := HQ2.out.grow.size
      have hl5 : l.length ≤ 2000 := by omega
      by_cases he : esc = true ∧ x = 92
      · obtain ⟨rfl, hx92⟩ := he
        subst hx92
        go_wp2_with fail
        have HQ3 := Lib.hid (HQ2.out.set (show (j : Int) + 1 = ((j + 1 : Nat) : Int) by omega))
        by_cases hlt2 : j + 1 < s.size
        · have HBB := Lib.hid (show rest m true s (j + 2) (l ++ [escd (UInt8.ofNat (pb s (j + 1)))]) = R by rw [← HB.out, rest_esc hlt2 HX.out.symm])
          refine (more_q HQ3.out true (by simpa using hlt2)).mono ?_; rintro e w3 ⟨rfl, hQ4⟩
          obtain ⟨j1, hj1⟩ : ∃ j1, j1 = j + 1 := ⟨_, rfl⟩
          rw [← hj1] at hQ4 hlt2
          have HPB1 := Lib.hid (pb_at s j1 hlt2)
          have hy8 := pb_lt s j1
          have HBB := Lib.hid (show rest m true s (j1 + 1) (l ++ [escd (UInt8.ofNat (pb s j1))]) = R by rw [hj1]; exact HBB.out)
          have HJ1 := Lib.hid hj1
          have hlt3 : (j1 : Int) < s.size := by omega
          have hj2 : j1 ≤ j + 1 := by omega
          have hj3 : j + 1 ≤ j1 := by omega
          have HQ4 := Lib.hid hQ4
          clear d0 d1 d2 HQ2 HQ3 hj1
          obtain ⟨d0, d1, d2⟩ := hQ4.cur.cell
          have hz4 := hQ4.grow.size
          clear hQ4
          obtain ⟨y, hy⟩ : ∃ y, y = pb s j1 := ⟨_, rfl⟩
          rw [← hy] at hy8 HBB HPB1
          clear hy
          go_wp2_with fail
          refine (demand_true _).mono ?_; rintro e w' ⟨rfl, rfl⟩
          go_wp2_with fail
          have HES := Lib.hid (fun W => escaped_any y W hy8)
          rw [← HPB1.out] at HES
          go_quiet ((go_at_call 108; exact Calls.quiet_of_same ((HES.out _).mono fun _ _ h => ⟨h.1, h.2.symm⟩)))
          rw [HPB1.out]
          have HQ5a := Lib.hid (HQ4.out.drewN nq)
          have d0' : (w3.drewN nq).cell? ⟨p, 0, none⟩ = some (.string s) := d0
          have d1' : (w3.drewN nq).cell? ⟨p, 1, none⟩ = some (.int .i64 j1) := d1
          have d2' : (w3.drewN nq).frozen? ⟨p, 1, none⟩ = false := d2
          have hz5 : w.heap.size ≤ (w3.drewN nq).heap.size := hz4
          clear HQ4 d0 d1 d2 HES HPB1 hz4
          generalize w3.drewN nq = w4 at HQ5a d0' d1' d2' hz5 ⊢
          obtain ⟨c, hc⟩ : ∃ c, c = escd (UInt8.ofNat y) := ⟨_, rfl⟩
          rw [← hc] at HBB ⊢
          clear hc
          go_wp2_with (at_builtin; refine wpList_append_own_wide _ rfl (.tmp 91) (.tmp 93) 52 rfl w.heap.size 5 i0 (.int .u8 0) 1 1 Tryd.underlying52 hi0 y0 y1 y2 rfl (by decide) (.slice va l.length vc) l.length (byteC l) rfl (HQ5a.out.row.alloc _) ⟨w4.heap.size, 0, none⟩ 1 1 [.int .u8 (c.toNat : Nat)] rfl rfl (fun j u h => by rw [Go.WideShapes.add_plain, Nat.zero_add, ← h]; exact (World.cell?_alloc_new _ _ _ j).trans (by simp)) (fun u hu => by simp at hu; subst hu; rfl) (by unfold maxLen; omega) (by omega) (by first | omega | (rw [World.size_alloc]; omega)) ?_)
          intro v5 w5 hO5 hg5 _
          have HQ5 := Lib.hid (HQ5a.out.feed (b := c) hO5 hg5)
          obtain ⟨e0, e1, g1⟩ := HQ5.out.cur.cell
          clear hO5 hg5
          clear HQ5a d0' d1' d2'
          go_wp2_with fail
          go_roundg (s.size - (j1 + 1))
          case measure => have := HGK.out; omega
          case rel => exact ⟨j1 + 1, _, by omega, by omega, by rw [List.length_append]; simp; omega, rfl, HQ5.out.set (by omega), HBB.out⟩
        · have HBB := Lib.hid (show R = none by rw [← HB.out]; exact rest_esc_end (by omega) HX.out.symm)
          refine (more_q HQ3.out false (by simpa using hlt2)).mono ?_; rintro e w3 ⟨rfl, hQ4⟩
          have HS := Lib.hid (stuck_q hQ4)
          clear hQ4
          go_wp2_with fail
          refine (demand_false _).mono ?_; rintro e w' ⟨rfl, rfl⟩
          go_wp2_with fail
          exact ⟨rfl, by rw [HBB.out]; exact OptQ.none HS.out⟩
      · have hesc : esc = false ∨ esc = true ∧ ((x : Int) == 92) = false := by
          cases esc with
          | false => exact .inl rfl
          | true => exact .inr ⟨rfl, by simp at he ⊢; omega⟩
        have hE : ¬ (esc = true ∧ pb s j = 92) := by rw [← HX.out]; exact he
        have RB := Lib.hid (fun (h1 : x = m) (h2 : pb s (j + 1) = m) => rest_two (l := l) (m := m) (by omega) hlt hE (HX.out.symm.trans h1) h2 (by omega))
        have RC := Lib.hid (fun (h1 : x = m) (h2 : ¬ pb s (j + 1) = m) => HB.out.symm.trans (rest_one (l := l) (m := m) (by omega) hlt hE (HX.out.symm.trans h1) h2))
        have RD := Lib.hid (fun (h1 : ¬ x = m) => rest_on (l := l) (m := m) (by omega) hlt hE (by rw [← HX.out]; exact h1))
        clear he hE
        rcases hesc with rfl | ⟨rfl, h92⟩
        all_goals
          by_cases hxm : x = m
          · have hz1 : ((x : Int) == m) = true := by simp; omega
            have HXM := Lib.hid hxm
            have HP1 := Lib.hid (peek_q HQ2.out 1 hs (by omega))
            have hy8 := pb_lt s (j + 1)
            obtain ⟨y, hy⟩ : ∃ y, y = pb s (j + 1) := ⟨_, rfl⟩
            rw [← hy] at hy8 HP1
            have HY := Lib.hid hy
            clear hxm hy
            go_wp2_with fail
            refine HP1.out.mono ?_; rintro e w3 ⟨rfl, hQ3⟩
            have HQ3 := Lib.hid hQ3
            clear d0 d1 d2 HQ2 HP1
            obtain ⟨d0, d1, d2⟩ := hQ3.cur.cell
            have hz3 := hQ3.grow.size
            clear hQ3
            by_cases hym : y = m
            · have hz2 : ((y : Int) == m) = true := by simp; omega
              obtain ⟨r1, r2⟩ := RB.out HXM.out (HY.out.symm.trans hym)
              rw [HB.out, ← HX.out] at r2
              have R2 := Lib.hid r2
              clear hym r2
              go_upto_region 15 with (fail)
              have HQ5a := Lib.hid (HQ3.out.set (show (j : Int) + 1 = ((j + 1 : Nat) : Int) by omega))
              have hz5 : w.heap.size ≤ (w3.setCell ⟨p, 1, none⟩ (.int .i64 ((j : Int) + 1))).heap.size := HQ5a.out.grow.size
              clear HQ3 d0 d1 d2 hz3
              generalize w3.setCell ⟨p, 1, none⟩ (.int .i64 ((j : Int) + 1)) = w4 at HQ5a hz5 ⊢
              have hux : (UInt8.ofNat x).toNat = x := by rw [UInt8.toNat_ofNat', Nat.mod_eq_of_lt hx8]
              have HUX := Lib.hid hux
              clear hux
              go_wp2_with (at_builtin; refine wpList_append_own_wide _ rfl (.tmp 91) (.tmp 93) 52 rfl w.heap.size 5 i0 (.int .u8 0) 1 1 Tryd.underlying52 hi0 y0 y1 y2 rfl (by decide) (.slice va l.length vc) l.length (byteC l) rfl (HQ5a.out.row.alloc _) ⟨w4.heap.size, 0, none⟩ 1 1 [.int .u8 (x : Nat)] rfl rfl (fun j u h => by rw [Go.WideShapes.add_plain, Nat.zero_add, ← h]; exact (World.cell?_alloc_new _ _ _ j).trans (by simp)) (fun u hu => by simp at hu; subst hu; rfl) (by unfold maxLen; omega) (by omega) (by first | omega | (rw [World.size_alloc]; omega)) ?_)
              intro v5 w5 hO5 hg5 _
              have HQ5 := Lib.hid (HQ5a.out.feed (b := UInt8.ofNat x) (by rw [HUX.out]; exact hO5) hg5)
              obtain ⟨e0, e1, g1⟩ := HQ5.out.cur.cell
              clear hO5 hg5
              clear HQ5a
              go_wp2_with fail
              go_roundg (s.size - (j + 2))
              case measure => have := HGK.out; omega
              case rel => exact ⟨j + 2, _, by omega, by omega, by rw [List.length_append]; simp; omega, rfl, HQ5.out.set (by omega), R2.out.symm⟩
            · have hz2 : ((y : Int) == m) = false := by simp; omega
              have R1 := Lib.hid (RC.out HXM.out (by rw [← HY.out]; exact hym))
              have HQ5 := Lib.hid (HQ3.out.set (show (j : Int) + 1 = ((j + 1 : Nat) : Int) by omega))
              have htx := HQ5.out.text
              have hbl := bytes_len s
              have HJ := Lib.hid (show s.size - ((bytes s).drop (j + 1)).length = j + 1 by rw [List.length_drop, hbl]; omega)
              clear hym HQ3 hbl
              go_wp2_with fail
              go_ret
              rw [R1.out]
              exact OptQ.some ⟨rfl, by rw [HJ.out]; exact HQ5.out.cur, HQ5.out.grow⟩
          · have hz1 : ((x : Int) == m) = false := by simp; omega
            have R3 := Lib.hid (RD.out hxm)
            rw [HB.out, ← HX.out] at R3
            have hux : (UInt8.ofNat x).toNat = x := by rw [UInt8.toNat_ofNat', Nat.mod_eq_of_lt hx8]
            have HUX := Lib.hid hux
            clear hux hxm
            go_wp2_with (at_builtin; refine wpList_append_own_wide _ rfl (.tmp 91) (.tmp 93) 52 rfl w.heap.size 5 i0 (.int .u8 0) 1 1 Tryd.underlying52 hi0 y0 y1 y2 rfl (by decide) (.slice va l.length vc) l.length (byteC l) rfl (HQ2.out.row.alloc _) ⟨w2.heap.size, 0, none⟩ 1 1 [.int .u8 (x : Nat)] rfl rfl (fun j u h => by rw [Go.WideShapes.add_plain, Nat.zero_add, ← h]; exact (World.cell?_alloc_new _ _ _ j).trans (by simp)) (fun u hu => by simp at hu; subst hu; rfl) (by unfold maxLen; omega) (by omega) (by first | omega | (rw [World.size_alloc]; omega)) ?_)
            intro v5 w5 hO5 hg5 _
            have HQ5 := Lib.hid (HQ2.out.feed (b := UInt8.ofNat x) (by rw [HUX.out]; exact hO5) hg5)
            obtain ⟨e0, e1, g1⟩ := HQ5.out.cur.cell
            clear hO5 hg5
            clear HQ2 d0 d1 d2
            go_wp2_with fail
            go_roundg (s.size - (j + 1))
            case measure => have := HGK.out; omega
            case rel => exact ⟨j + 1, _, by omega, by omega, by rw [List.length_append]; simp; omega, rfl, HQ5.out.set (by omega), R3.out.symm⟩
    · obtain rfl : j = s.size := by omega
      have HBB := Lib.hid (show R = none by rw [← HB.out]; exact rest_end (by omega))
      go_wp2_with fail
      refine (more_q HQ.out false (by simp)).mono ?_; rintro e w1 ⟨rfl, hQ1⟩
      have HS := Lib.hid (stuck_q hQ1)
      clear hQ1
      go_wp2_with fail
      refine (demand_false _).mono ?_; rintro e w' ⟨rfl, rfl⟩
      go_wp2_with fail
      exact ⟨rfl, by rw [HBB.out]; exact OptQ.none HS.out⟩
end Go.Proofs.YtgopajddloeclaaDoor
