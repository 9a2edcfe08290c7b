/- Two texts, a blank line between: ScanJoins answers true, and leaves what was there as it was. -/
import Derived.Test.YtckimeikiakfcaaLawEnds
import Derived.BigQuiet
import Derived.Deep.QuietTactic
namespace Go.Proofs.Ytckimeikiakfcaa
open Go.RowKit Go.Lib Go.WideShapes Go.ChangeShapes Go.ChangeAt Go.Joins

/-- The cells of a row of tokens. -/
def TokAt (w : World) (p : Option Addr) (l : List Tok) : Prop := ∀ (i : Nat) (q : Tok), l[i]? = some q → ∃ g, p = some ⟨g, 0, none⟩ ∧ g < w.heap.size ∧ w.cell? ⟨g, i * 4, none⟩ = some (.int .u8 (q.kind.toNat : Nat)) ∧ w.cell? ⟨g, i * 4 + 1, none⟩ = some (.string ⟨q.text.toArray⟩) ∧ w.cell? ⟨g, i * 4 + 2, none⟩ = some (.int .i64 q.lo) ∧ w.cell? ⟨g, i * 4 + 3, none⟩ = some (.int .i64 q.hi)

theorem TokAt.step {w w' : World} {p : Option Addr} {l : List Tok} (h : TokAt w p l) (hb : Below w.heap.size w w') : TokAt w' p l := by
  intro i q hq
  obtain ⟨g, rfl, hg, h0, h1, h2, h3⟩ := h i q hq
  exact ⟨g, rfl, Nat.lt_of_lt_of_le hg hb.size, (hb.cell hg).trans h0, (hb.cell hg).trans h1, (hb.cell hg).trans h2, (hb.cell hg).trans h3⟩

theorem tokC_at : ∀ (l : List Tok) (i : Nat) (q : Tok), l[i]? = some q → (tokC l)[i * 4]? = some (.int .u8 (q.kind.toNat : Nat)) ∧ (tokC l)[i * 4 + 1]? = some (.string ⟨q.text.toArray⟩) ∧ (tokC l)[i * 4 + 2]? = some (.int .i64 q.lo) ∧ (tokC l)[i * 4 + 3]? = some (.int .i64 q.hi) := by
  intro l
  induction l with
  | nil => intro i q h; cases h
  | cons t l ih =>
    intro i q h
    cases i with
    | zero => cases h; exact ⟨rfl, rfl, rfl, rfl⟩
    | succ i =>
      obtain ⟨h0, h1, h2, h3⟩ := ih i q h
      have e : ∀ k, (tokC (t :: l))[(i + 1) * 4 + k]? = (tokC l)[i * 4 + k]? := by
        intro k
        rw [show (i + 1) * 4 + k = (i * 4 + k) + 4 by omega]
        rfl
      exact ⟨(e 0).trans h0, (e 1).trans h1, (e 2).trans h2, (e 3).trans h3⟩

theorem toks_facts : ∀ (f n : Nat) (l : Bs) (ts : List Tok), toks f n l = some ts → ts.length ≤ l.length ∧ ∀ q ∈ ts, q.lo ≤ n ∧ q.hi ≤ n := by
  intro f
  induction f with
  | zero => intro n l ts h; cases h
  | succ f ih =>
    intro n l ts h
    rw [toks_tk] at h
    cases hs : sk l 0 with
    | none => rw [hs] at h; cases h
    | some q =>
      rw [hs] at h
      obtain ⟨j, hj, hjl⟩ := sk_sub l q hs
      have h0 := congrArg List.length hj
      rw [List.length_drop] at h0
      cases q with
      | nil => cases h; exact ⟨Nat.zero_le _, fun q hq => by cases hq⟩
      | cons a q =>
        have h : tk f n (a :: q) = some ts := h
        rw [tk] at h
        cases ht : token (a :: q) with
        | none => rw [ht] at h; cases h
        | some p =>
          obtain ⟨k, t, r⟩ := p
          obtain ⟨e, he1, he, hel⟩ := token_sub ht
          have h1 := congrArg List.length he
          rw [List.length_drop] at h1
          rw [ht] at h
          have h : (toks f n r).map _ = some ts := h
          cases hr : toks f n r with
          | none => rw [hr] at h; cases h
          | some ts' =>
            rw [hr] at h
            cases h
            obtain ⟨g1, g2⟩ := ih n r ts' hr
            refine ⟨by rw [List.length_cons]; omega, fun q hq => ?_⟩
            rcases List.mem_cons.1 hq with rfl | hq
            · exact ⟨Nat.sub_le _ _, Nat.sub_le _ _⟩
            · exact g2 q hq

theorem tokens_facts {l : Bs} {ts : List Tok} (h : tokens l = some ts) : ts.length ≤ l.length ∧ ∀ q ∈ ts, q.lo ≤ l.length ∧ q.hi ≤ l.length := by
  unfold tokens at h
  split at h
  · cases h
  · exact toks_facts _ _ _ _ h

theorem scan_rows (s : ByteArray) (m : Int) (w : World) (hs : s.size ≤ 2000) (hm : w.cell? ⟨0, 0, none⟩ = some (.int .i64 m)) :
    Calls Try.prog 8 #[.string s] w fun e w' => Below w.heap.size w w' ∧ ((tokens (bytes s) = none ∧ ∃ p c : _, e = .returned (.tuple #[.slice p 0 c, .int .i64 2])) ∨ ∃ (L : List Tok) (n : Nat) (p : _) (c : _), tokens (bytes s) = some L ∧ L.length = n ∧ n ≤ 2000 ∧ e = .returned (.tuple #[.slice p n c, .int .i64 0]) ∧ TokAt w' p L) := by
  refine (scan_small s m w hs hm).mono ?_
  rintro e w' ⟨hB, h | ⟨L, p, c, hT, rfl, hL, hO⟩⟩
  · exact ⟨hB, .inl h⟩
  · refine ⟨hB, .inr ⟨L, L.length, p, c, hT, rfl, ?_, rfl, fun i q hq => ?_⟩⟩
    · have := (tokens_facts hT).1
      rw [bytes_len] at this
      omega
    · have h0 : 0 < L.length := Nat.lt_of_le_of_lt (Nat.zero_le i) (List.getElem?_eq_some_iff.1 hq).1
      obtain ⟨g, cap, hv, _, _, _, hg, hc⟩ := tok_cells hO h0
      cases hv
      obtain ⟨h0, h1, h2, h3⟩ := tokC_at L i q hq
      exact ⟨g, rfl, hg, hc _ _ h0, hc _ _ h1, hc _ _ h2, hc _ _ h3⟩

set_option maxRecDepth 100000 in
set_option maxHeartbeats 4000000 in
theorem joins_ok (s t : ByteArray) (m : Int) (w : World) (hs : s.size ≤ 140737488351232) (ht : t.size ≤ 140737488351232) (hm : w.cell? ⟨0, 0, none⟩ = some (.int .i64 m)) :
    Calls Try.prog 3 #[.string s, .string t] w fun e w' => e = .returned (.bool true) ∧ Below w.heap.size w w' := by
  have HM := Lib.hid hm
  have HW0 := Lib.hid (World.block_lt_of_cell? w ⟨0, 0, none⟩ hm)
  have HSH := Lib.hid (shown_true m w hm)
  have HSC := Lib.hid (fun (S : ByteArray) (W : World) h1 h2 => scan_rows S m W h1 h2)
  clear hm
  by_cases hl : (s.size : Int) + t.size ≤ 1900
  · go_enter Try.func3, Try.ntmps3
    go_wp2_with fail
    refine HSH.out.mono ?_; rintro e w1 ⟨rfl, hb1⟩
    have HB1 := Lib.hid hb1
    have HM1 := Lib.hid ((hb1.cell (p := ⟨0, 0, none⟩) HW0.out).trans HM.out)
    clear hb1
    go_wp2_with fail
    refine (HSC.out _ w1 (by omega) HM1.out).mono ?_; rintro e w2 ⟨hb2, hcs⟩
    have HB2 := Lib.hid (HB1.out.step hb2 HB1.out.size)
    have HM2 := Lib.hid ((hb2.cell (World.block_lt_of_cell? w1 ⟨0, 0, none⟩ HM1.out)).trans HM1.out)
    clear hb2
    rcases hcs with ⟨_, p1, c1, rfl⟩ | ⟨L, n1, p1, c1, hT1, hn1, hm1, rfl, hA1⟩
    · go_wp2_with fail
      refine (HSC.out _ w2 (by omega) HM2.out).mono ?_; rintro e w3 ⟨hb3, hcs⟩
      have HB3 := Lib.hid (HB2.out.step hb3 HB2.out.size)
      clear hb3
      rcases hcs with ⟨_, p2, c2, rfl⟩ | ⟨R, n2, p2, c2, _, _, hm2, rfl, _⟩
      · go_wp2_with fail
        go_ret
        exact ⟨rfl, HB3.out⟩
      · go_wp2_with fail
        all_goals (go_ret; exact ⟨rfl, HB3.out⟩)
    · have HT1 := Lib.hid hT1; have HN1 := Lib.hid hn1; have HA1 := Lib.hid hA1
      clear hT1 hn1 hA1
      go_wp2_with fail
      refine (HSC.out _ w2 (by omega) HM2.out).mono ?_; rintro e w3 ⟨hb3, hcs⟩
      have HB3 := Lib.hid (HB2.out.step hb3 HB2.out.size)
      have HM3 := Lib.hid ((hb3.cell (World.block_lt_of_cell? w2 ⟨0, 0, none⟩ HM2.out)).trans HM2.out)
      have HA13 := Lib.hid (HA1.out.step hb3)
      clear hb3 HA1
      rcases hcs with ⟨_, p2, c2, rfl⟩ | ⟨R, n2, p2, c2, hT2, hn2, hm2, rfl, hA2⟩
      · go_wp2_with fail
        all_goals (go_ret; exact ⟨rfl, HB3.out⟩)
      · have HT := Lib.hid (tokens_lines (bytes s) (bytes t) HT1.out)
        have HT2 := Lib.hid hT2; have HN2 := Lib.hid hn2; have HA2 := Lib.hid hA2
        clear hT2 hn2 hA2
        go_wp2_with fail
        refine (HSC.out _ w3 (by simp only [ByteArray.size_append]; show s.size + 3 + t.size ≤ 2000; omega) HM3.out).mono ?_; rintro e w4 ⟨hb4, hcs⟩
        have HB4 := Lib.hid (HB3.out.step hb4 HB3.out.size)
        have HA14 := Lib.hid (HA13.out.step hb4)
        have HA24 := Lib.hid (HA2.out.step hb4)
        clear hb4
        have HS := Lib.hid (show bytes (s ++ { data := #[10, 32, 10] } ++ t) = bytes s ++ 10 :: 32 :: 10 :: bytes t by rw [bytes_append, bytes_append]; show (bytes s ++ [10, 32, 10]) ++ bytes t = _; simp)
        rw [HS.out, HT.out, HT2.out] at hcs
        rcases hcs with ⟨hT3, _⟩ | ⟨C, n3, p3, c3, hT3, hn3, hm3, rfl, hA3⟩
        · cases hT3
        · cases hT3
          have hn4 : n3 = n1 + n2 := by rw [← hn3, List.length_append, List.length_map, HN1.out, HN2.out]
          have HA34 := Lib.hid hA3
          have HN4 := Lib.hid hn4
          have hn5 : (n3 : Int) ≤ n1 + n2 := by omega
          have hn6 : (n1 : Int) + n2 ≤ n3 := by omega
          have hn7 : ((n3 : Int) != (n1 : Int) + n2) = false := by simp; omega
          clear hA3 hn3 hn4
          go_wp2_with fail
          go_loopg [12] n3 (fun g v wr => ∃ i : Nat, v = .int .i64 i ∧ i ≤ n3 ∧ g = n3 - i ∧ Below w.heap.size w wr ∧ TokAt wr p1 L ∧ TokAt wr p2 R ∧ TokAt wr p3 (L ++ R.map (moved ((bytes s).length + 3))))
          case atStart => exact ⟨0, rfl, Nat.zero_le _, rfl, HB4.out, HA14.out, HA24.out, HA34.out⟩
          case round =>
            obtain ⟨i, rfl, hi, hg, hB, hr1, hr2, hr3⟩ := hrel
            have HB := Lib.hid hB; have HR1 := Lib.hid hr1; have HR2 := Lib.hid hr2; have HR3 := Lib.hid hr3; have HG := Lib.hid hg
            clear hB hr1 hr2 hr3 hg
            by_cases hlt : i < n3
            · have hlt' : (i : Int) < n3 := by omega
              by_cases ha : i < n1
              · have ha' : (i : Int) < n1 := by omega
                obtain ⟨q, hq⟩ : ∃ q, L[i]? = some q := ⟨_, List.getElem?_eq_getElem (by rw [HN1.out]; exact ha)⟩
                have hq3 : (L ++ R.map (moved ((bytes s).length + 3)))[i]? = some q := by rw [List.getElem?_append_left (by rw [HN1.out]; exact ha)]; exact hq
                obtain ⟨g1, rfl, hg1, x0, x1, x2, x3⟩ := HR1.out i q hq
                obtain ⟨g3, rfl, hg3, y0, y1, y2, y3⟩ := HR3.out i q hq3
                have HQ := Lib.hid ((tokens_facts HT1.out).2 q (List.mem_of_getElem? hq))
                clear hq hq3
                obtain ⟨k, tx, lo, hi'⟩ := q
                simp only at x0 x1 x2 x3 y0 y1 y2 y3
                go_wp2_with fail
                have z0 := Lib.cell?_alloc_some (Obj.cells #[.int .u8 (k.toNat : Nat), .string ⟨tx.toArray⟩, .int .i64 lo, .int .i64 hi'] 28) y0
                have z1 := Lib.cell?_alloc_some (Obj.cells #[.int .u8 (k.toNat : Nat), .string ⟨tx.toArray⟩, .int .i64 lo, .int .i64 hi'] 28) y1
                have z2 := Lib.cell?_alloc_some (Obj.cells #[.int .u8 (k.toNat : Nat), .string ⟨tx.toArray⟩, .int .i64 lo, .int .i64 hi'] 28) y2
                have z3 := Lib.cell?_alloc_some (Obj.cells #[.int .u8 (k.toNat : Nat), .string ⟨tx.toArray⟩, .int .i64 lo, .int .i64 hi'] 28) y3
                have v0 : (wr.alloc (Obj.cells #[.int .u8 (k.toNat : Nat), .string ⟨tx.toArray⟩, .int .i64 lo, .int .i64 hi'] 28)).cell? ⟨wr.heap.size, 0, none⟩ = some (.int .u8 (k.toNat : Nat)) := World.cell?_alloc_new _ _ _ _
                have v1 : (wr.alloc (Obj.cells #[.int .u8 (k.toNat : Nat), .string ⟨tx.toArray⟩, .int .i64 lo, .int .i64 hi'] 28)).cell? ⟨wr.heap.size, 1, none⟩ = some (.string ⟨tx.toArray⟩) := World.cell?_alloc_new _ _ _ _
                have v2 : (wr.alloc (Obj.cells #[.int .u8 (k.toNat : Nat), .string ⟨tx.toArray⟩, .int .i64 lo, .int .i64 hi'] 28)).cell? ⟨wr.heap.size, 2, none⟩ = some (.int .i64 lo) := World.cell?_alloc_new _ _ _ _
                have v3 : (wr.alloc (Obj.cells #[.int .u8 (k.toNat : Nat), .string ⟨tx.toArray⟩, .int .i64 lo, .int .i64 hi'] 28)).cell? ⟨wr.heap.size, 3, none⟩ = some (.int .i64 hi') := World.cell?_alloc_new _ _ _ _
                have HB5 := Lib.hid (HB.out.alloc HB.out.size (Obj.cells #[.int .u8 (k.toNat : Nat), .string ⟨tx.toArray⟩, .int .i64 lo, .int .i64 hi'] 28))
                have HB6 := Lib.hid ((Below.refl wr.heap.size wr).alloc (Nat.le_refl _) (Obj.cells #[.int .u8 (k.toNat : Nat), .string ⟨tx.toArray⟩, .int .i64 lo, .int .i64 hi'] 28))
                clear x0 x1 x2 x3 y0 y1 y2 y3
                generalize wr.alloc (Obj.cells #[.int .u8 (k.toNat : Nat), .string ⟨tx.toArray⟩, .int .i64 lo, .int .i64 hi'] 28) = w5 at z0 z1 z2 z3 v0 v1 v2 v3 HB5 HB6 ⊢
                go_quiet (fail)
                go_wp2_with fail
                go_roundg (n3 - (i + 1))
                case measure => have := HG.out; omega
                case rel => exact ⟨i + 1, by go_num, by omega, rfl, below_drewN HB5.out _, HR1.out.step (below_drewN HB6.out _), HR2.out.step (below_drewN HB6.out _), HR3.out.step (below_drewN HB6.out _)⟩
              · have ha' : (n1 : Int) ≤ i := by omega
                have hd : i - n1 < n2 := by have := HN4.out; omega
                obtain ⟨q, hq⟩ : ∃ q, R[i - n1]? = some q := ⟨_, List.getElem?_eq_getElem (by rw [HN2.out]; exact hd)⟩
                have hq3 : (L ++ R.map (moved ((bytes s).length + 3)))[i]? = some (moved ((bytes s).length + 3) q) := by
                  rw [List.getElem?_append_right (by rw [HN1.out]; omega), HN1.out, List.getElem?_map, hq]; rfl
                obtain ⟨g2, rfl, hg2, x0, x1, x2, x3⟩ := HR2.out _ q hq
                obtain ⟨g3, rfl, hg3, y0, y1, y2, y3⟩ := HR3.out i _ hq3
                obtain ⟨hlo, hhi⟩ := (tokens_facts HT2.out).2 q (List.mem_of_getElem? hq)
                rw [bytes_len] at hlo hhi
                clear hq hq3
                obtain ⟨k, tx, lo, hi'⟩ := q
                simp only at x0 x1 x2 x3 hlo hhi
                have y0 : wr.cell? ⟨g3, i * 4, none⟩ = some (.int .u8 (k.toNat : Nat)) := y0
                have y1 : wr.cell? ⟨g3, i * 4 + 1, none⟩ = some (.string ⟨tx.toArray⟩) := y1
                have y2 : wr.cell? ⟨g3, i * 4 + 2, none⟩ = some (.int .i64 (lo + s.size + 3)) := y2.trans (congrArg (fun x => some (Value.int .i64 x)) (by rw [bytes_len]; show ((lo + (s.size + 3) : Nat) : Int) = _; omega))
                have y3 : wr.cell? ⟨g3, i * 4 + 3, none⟩ = some (.int .i64 (hi' + s.size + 3)) := y3.trans (congrArg (fun x => some (Value.int .i64 x)) (by rw [bytes_len]; show ((hi' + (s.size + 3) : Nat) : Int) = _; omega))
                have hd' : (i : Int) - n1 < n2 := by omega
                have hlo' : (lo : Int) ≤ t.size := by omega
                have hhi' : (hi' : Int) ≤ t.size := by omega
                go_wp2_with fail
                have z0 := Lib.cell?_alloc_some (Obj.cells #[.int .u8 (k.toNat : Nat), .string ⟨tx.toArray⟩, .int .i64 (lo + s.size + 3), .int .i64 (hi' + s.size + 3)] 28) y0
                have z1 := Lib.cell?_alloc_some (Obj.cells #[.int .u8 (k.toNat : Nat), .string ⟨tx.toArray⟩, .int .i64 (lo + s.size + 3), .int .i64 (hi' + s.size + 3)] 28) y1
                have z2 := Lib.cell?_alloc_some (Obj.cells #[.int .u8 (k.toNat : Nat), .string ⟨tx.toArray⟩, .int .i64 (lo + s.size + 3), .int .i64 (hi' + s.size + 3)] 28) y2
                have z3 := Lib.cell?_alloc_some (Obj.cells #[.int .u8 (k.toNat : Nat), .string ⟨tx.toArray⟩, .int .i64 (lo + s.size + 3), .int .i64 (hi' + s.size + 3)] 28) y3
                have v0 : (wr.alloc (Obj.cells #[.int .u8 (k.toNat : Nat), .string ⟨tx.toArray⟩, .int .i64 (lo + s.size + 3), .int .i64 (hi' + s.size + 3)] 28)).cell? ⟨wr.heap.size, 0, none⟩ = some (.int .u8 (k.toNat : Nat)) := World.cell?_alloc_new _ _ _ _
                have v1 : (wr.alloc (Obj.cells #[.int .u8 (k.toNat : Nat), .string ⟨tx.toArray⟩, .int .i64 (lo + s.size + 3), .int .i64 (hi' + s.size + 3)] 28)).cell? ⟨wr.heap.size, 1, none⟩ = some (.string ⟨tx.toArray⟩) := World.cell?_alloc_new _ _ _ _
                have v2 : (wr.alloc (Obj.cells #[.int .u8 (k.toNat : Nat), .string ⟨tx.toArray⟩, .int .i64 (lo + s.size + 3), .int .i64 (hi' + s.size + 3)] 28)).cell? ⟨wr.heap.size, 2, none⟩ = some (.int .i64 (lo + s.size + 3)) := World.cell?_alloc_new _ _ _ _
                have v3 : (wr.alloc (Obj.cells #[.int .u8 (k.toNat : Nat), .string ⟨tx.toArray⟩, .int .i64 (lo + s.size + 3), .int .i64 (hi' + s.size + 3)] 28)).cell? ⟨wr.heap.size, 3, none⟩ = some (.int .i64 (hi' + s.size + 3)) := World.cell?_alloc_new _ _ _ _
                have HB5 := Lib.hid (HB.out.alloc HB.out.size (Obj.cells #[.int .u8 (k.toNat : Nat), .string ⟨tx.toArray⟩, .int .i64 (lo + s.size + 3), .int .i64 (hi' + s.size + 3)] 28))
                have HB6 := Lib.hid ((Below.refl wr.heap.size wr).alloc (Nat.le_refl _) (Obj.cells #[.int .u8 (k.toNat : Nat), .string ⟨tx.toArray⟩, .int .i64 (lo + s.size + 3), .int .i64 (hi' + s.size + 3)] 28))
                clear x0 x1 x2 x3 y0 y1 y2 y3
                generalize wr.alloc (Obj.cells #[.int .u8 (k.toNat : Nat), .string ⟨tx.toArray⟩, .int .i64 (lo + s.size + 3), .int .i64 (hi' + s.size + 3)] 28) = w5 at z0 z1 z2 z3 v0 v1 v2 v3 HB5 HB6 ⊢
                go_quiet (fail)
                go_wp2_with fail
                go_roundg (n3 - (i + 1))
                case measure => have := HG.out; omega
                case rel => exact ⟨i + 1, by go_num, by omega, rfl, below_drewN HB5.out _, HR1.out.step (below_drewN HB6.out _), HR2.out.step (below_drewN HB6.out _), HR3.out.step (below_drewN HB6.out _)⟩
            · have hlt' : (n3 : Int) ≤ i := by omega
              go_wp2_with fail
              go_ret
              exact ⟨rfl, HB.out⟩
  · go_enter Try.func3, Try.ntmps3
    go_wp2_with fail
    refine HSH.out.mono ?_; rintro e w1 ⟨rfl, hb1⟩
    have HB1 := Lib.hid hb1
    clear hb1
    go_wp2_with fail
    go_ret
    exact ⟨rfl, HB1.out⟩

set_option maxRecDepth 100000 in
theorem joins_lifted (os : Os) (started : os.Started) (H : Type) (enc : TypeId × Value → H) :
    ReturnsInHanded {} Try.checked os 3 .any (Rows.scanJoinsSpec.pre6 enc Try.prog Try.f3 Rows.scanJoinsRow.domain false) (Rows.scanJoinsSpec.post enc Try.prog Try.f3 false true false false) := by
  refine returnsInHanded_of_change_shaped (C := Try.checked) own started (by kernel_rfl) Try.func3
    (ChangeSpec.witness6 (enc := enc) (C := Try.checked) false ⟨#[], #[.string { data := #[] }, .string { data := #[] }], []⟩ 8 (by kernel_rfl) (by kernel_rfl) (by kernel_rfl) (by kernel_rfl)) ?_
  intro W base args ds gs before hval0 hW _ hsz0 hsh _
  obtain ⟨m, hm⟩ : ∃ m, W.cell? ⟨0, 0, none⟩ = some (.int .i64 m) := Try.laysM143.s1_3 W hsh
  have hsz : (DataW.weightsEach Try.prog (Try.f3.params.toList ++ Rows.scanJoinsSpec.plain.varTypes Try.prog) (ds ++ gs)).all (· ≤ reachBytes) = true := hsz0
  clear hsz0
  have hval : ∀ (j : Nat) t v, Try.f3.params[j]? = some t → args[j]? = some v → Value.okWide Try.prog W .any base t v := hval0
  have hW' := hW
  obtain ⟨p, q, hA0, hV, rfl, _, _⟩ := hW
  have hA : DataW.TrodAll enc Try.prog W 0 (fun _ => true) true Try.f3.params.toList args.toList ds p := hA0
  rw [Try.params3] at hA hval hsz
  obtain ⟨v0, v1, d0, d1, p0, p1, rfl, rfl, rfl, h0, h1⟩ := trodAll_two hA
  obtain ⟨rfl, rfl⟩ := trodVars_none hV
  obtain ⟨s, rfl, rfl, rfl, hl_s⟩ := Go.ChangeMaps.open_string Try.underlying9 (hval 0 9 v0 rfl rfl) h0
  have hz_s : s.size ≤ 140737488351232 := by have := sized_string hsz (j := 0) (t := 9) rfl rfl; rw [size_list] at this; exact this
  obtain ⟨t, rfl, rfl, rfl, hl_t⟩ := Go.ChangeMaps.open_string Try.underlying9 (hval 1 9 v1 rfl rfl) h1
  have hz_t : t.size ≤ 140737488351232 := by have := sized_string hsz (j := 1) (t := 9) rfl rfl; rw [size_list] at this; exact this
  refine (joins_ok s t m W hz_s hz_t hm).mono fun e W' ⟨he, hb⟩ => ?_
  subst he
  exact ⟨_, rfl, law_shut laidOut (by kernel_rfl) (by kernel_rfl) Try.underlying4 rfl hW' rfl hb⟩

theorem joins_holds : Rows.ScanJoinsSaid :=
  OpenClaim.holds_of_wide 3 Try.f3 rfl rfl rfl rfl rfl rfl rfl ⟨rfl, rfl, rfl, rfl, rfl⟩ rfl rfl rfl rfl rfl (by kernel_rfl) Try.func3 (by kernel_rfl)
    (of_decide_eq_true (by kernel_rfl)) (by unfold Func.isWrapper; rw [if_neg (of_decide_eq_false (by kernel_rfl))]; exact ⟨rfl, rfl⟩)
    (fun os started H enc _ => joins_lifted os started H enc)
end Go.Proofs.Ytckimeikiakfcaa
