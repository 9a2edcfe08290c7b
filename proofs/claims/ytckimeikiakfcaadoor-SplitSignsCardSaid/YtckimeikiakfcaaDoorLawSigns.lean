/- A sign that parts statements parts none in a text, a name, or a comment: SplitSigns answers true, whatever text it is called with, and leaves what was there as it was. (Over the listed variables, tied to the program's text.) -/
import Derived.Test.YtckimeikiakfcaaDoorCard
import Derived.Test.YtckimeikiakfcaaDoorSignsM
import Derived.Test.YtckimeikiakfcaaDoorFieldsA
import Derived.Test.YtckimeikiakfcaaDoorShown4
namespace Go.Proofs.YtckimeikiakfcaaDoor
open Go.RowKit Go.Lib Go.WideShapes Go.ChangeShapes Go.ChangeAt Go.Joins

theorem nb_cat (a b : ByteArray) : bytes (a ++ b) = bytes a ++ bytes b := by simp [bytes]

theorem sq_mem {c x : UInt8} (hx : x ≠ c) : ∀ {l : Bs}, x ∈ quoted c l → x ∈ l := by
  have hd : ∀ l : Bs, x ∈ doubled c l → x ∈ l := by
    intro l
    induction l with
    | nil => intro h; exact h
    | cons b r ih =>
      intro h
      rw [doubled] at h
      by_cases hb : b = c
      · rw [if_pos hb] at h
        simp at h
        rcases h with h | h
        · exact absurd h hx
        · exact List.mem_cons_of_mem _ (ih h)
      · rw [if_neg hb] at h
        simp at h
        rcases h with h | h
        · rw [h]; exact List.mem_cons_self ..
        · exact List.mem_cons_of_mem _ (ih h)
  intro l h
  unfold quoted at h
  simp at h
  rcases h with h | h | h
  · exact absurd h hx
  · exact hd l h
  · exact absurd h hx
theorem sq_length (c : UInt8) (l : Bs) : (quoted c l).length ≤ 2 * l.length + 2 := by
  unfold quoted
  rw [List.length_cons, List.length_append, doubled_length]
  have := List.count_le_length (a := c) (l := l)
  simp; omega

/-- Two tokens that the call itself laid. -/
theorem two_toks (w : World) (k0 k1 : UInt8) (X0 X1 : ByteArray) : TokOff (w.alloc (.cells #[.int .u8 (k0.toNat : Nat), .string X0, .int .i64 0, .int .i64 0, .int .u8 (k1.toNat : Nat), .string X1, .int .i64 0, .int .i64 0] 28)) (some ⟨w.heap.size, 0, none⟩) [⟨k0, bytes X0, 0, 0⟩, ⟨k1, bytes X1, 0, 0⟩] := by
  refine TokAt.off fun i q hq => ?_
  match i, hq with
  | 0, hq => cases hq; exact ⟨_, rfl, by simp, World.cell?_alloc_new _ _ _ _, World.cell?_alloc_new _ _ _ _, World.cell?_alloc_new _ _ _ _, World.cell?_alloc_new _ _ _ _⟩
  | 1, hq => cases hq; exact ⟨_, rfl, by simp, World.cell?_alloc_new _ _ _ _, World.cell?_alloc_new _ _ _ _, World.cell?_alloc_new _ _ _ _, World.cell?_alloc_new _ _ _ _⟩

/-- What Fields tells in SplitSigns. -/
theorem signs_fields (s : ByteArray) {F : ByteArray} (hF : F = ⟨(fieldsB [⟨115, bytes (s ++ { data := #[59] }), 0, 0⟩, ⟨113, bytes (({ data := #[59] } : ByteArray) ++ s), 0, 0⟩]).toArray⟩) : bytes F = quoted 39 (bytes s ++ [59]) ++ 32 :: quoted 34 (59 :: bytes s) ∧ F.size ≤ 4 * s.size + 9 := by
  have e : bytes F = quoted 39 (bytes s ++ [59]) ++ 32 :: quoted 34 (59 :: bytes s) := by
    rw [hF, fields_two, nb_cat, nb_cat]
    simp [bytes]
  refine ⟨e, ?_⟩
  have h1 := sq_length 39 (bytes s ++ [59])
  have h2 := sq_length 34 (59 :: bytes s)
  have h3 := congrArg List.length e
  rw [bytes_len] at h3
  rw [h3]
  simp only [List.length_append, List.length_cons, List.length_nil, bytes_len] at h1 h2 ⊢
  omega

theorem signs_tokens (s F : ByteArray) (hF : bytes F = quoted 39 (bytes s ++ [59]) ++ 32 :: quoted 34 (59 :: bytes s)) (h0 : (0 : UInt8) ∉ bytes s) (h1 : (42 : UInt8) ∉ bytes s) (h2 : (47 : UInt8) ∉ bytes s) :
    ∃ L, tokens (bytes ({ data := #[120, 32, 47, 42, 32, 59, 32] } ++ s ++ { data := #[42, 47] } ++ F ++ { data := #[59, 121, 45, 45, 59] })) = some L ∧ L.map kt = [(119, [120]), (115, bytes s ++ [59]), (113, 59 :: bytes s), (111, [59]), (119, [121])] := by
  have e : bytes ({ data := #[120, 32, 47, 42, 32, 59, 32] } ++ s ++ { data := #[42, 47] } ++ F ++ { data := #[59, 121, 45, 45, 59] }) = 120 :: 32 :: 47 :: 42 :: 32 :: 59 :: 32 :: (bytes s ++ 42 :: 47 :: (quoted 39 (bytes s ++ [59]) ++ 32 :: (quoted 34 (59 :: bytes s) ++ [59, 121, 45, 45, 59]))) := by
    rw [nb_cat, nb_cat, nb_cat, nb_cat, hF]
    simp [bytes]
  rw [e]
  refine tokens_kts ?_ (signs_kts (bytes s) (bytes s ++ [59]) (59 :: bytes s) h1 h2 (by simp))
  intro h
  simp at h
  rcases h with h | h | h
  · exact h0 (by simpa [bytes] using h)
  · have := sq_mem (by decide) h
    simp at this; exact h0 (by simpa [bytes] using this)
  · have := sq_mem (by decide) h
    simp at this; exact h0 (by simpa [bytes] using this)

set_option maxRecDepth 100000 in
set_option maxHeartbeats 8000000 in
theorem signs_ok (s : ByteArray) (m : Int) (w : World) (_hs : s.size ≤ 140737488351232) (hm : w.cell? ⟨0, 0, none⟩ = some (.int .i64 m)) :
    Calls Tryd.prog 6 #[.string s] w fun e w' => e = .returned (.bool true) ∧ Below w.heap.size w w' := by
  have HM := Lib.hid hm
  have HW0 := Lib.hid (World.block_lt_of_cell? w ⟨0, 0, none⟩ hm)
  have HSH := Lib.hid (shown4_true m w hm)
  have HFI := Lib.hid (fun p T n c W h1 h2 h3 h4 h5 => fields_any p T n c m W h1 h2 h3 h4 h5)
  have HSP := Lib.hid (fun (S : ByteArray) (W : World) h1 h2 => split_any S m W h1 h2)
  have HF := Lib.hid (fun p u l W n k c d lo hi w h1 h2 h3 h4 h5 => first_any p u l W n k c d lo hi w h1 h2 h3 h4 h5)
  clear hm
  by_cases hl : (s.size : Int) ≤ 300
  · go_enter Tryd.func6, Tryd.ntmps6
    go_wp2_with fail
    refine HSH.out.mono ?_; rintro e w1 ⟨rfl, hb1⟩
    have HB1 := Lib.hid hb1
    clear hb1 HSH
    go_wp2_with fail
    go_loopg [4] s.size (fun g v wr => ∃ k : Nat, v = .int .i64 k ∧ k ≤ s.size ∧ g = s.size - k ∧ wr = w1 ∧ ∀ i : Nat, i < k → (bytes s)[i]? ≠ some 0 ∧ (bytes s)[i]? ≠ some 42 ∧ (bytes s)[i]? ≠ some 47)
    case atStart => exact ⟨0, rfl, Nat.zero_le _, rfl, rfl, fun i h => absurd h (Nat.not_lt_zero _)⟩
    case round =>
      obtain ⟨k, rfl, hk, hg, rfl, ho⟩ := hrel
      have HO := Lib.hid ho; have HGK := Lib.hid hg
      clear ho hg
      by_cases hlt : k < s.size
      · have hlt' : (k : Int) < s.size := by omega
        have HGX := Lib.hid (show (bytes s)[k]? = some s[k] by rw [List.getElem?_eq_getElem (by rw [bytes_len]; exact hlt)]; rfl)
        have hof : ∀ c : UInt8, s[k] ≠ c → ((s[k].toNat : Int) == (c.toNat : Nat)) = false := fun c hc => by
          rw [beq_eq_false_iff_ne]; intro e; exact hc (UInt8.toNat_inj.1 (by omega))
        by_cases hc0 : s[k] = 0
        · have hc2 : ((s[k].toNat : Int) == 0) = true := by rw [hc0]; rfl
          clear hc0 hof
          go_wp2_with fail
          go_ret
          exact ⟨rfl, HB1.out⟩
        · have b0 : ((s[k].toNat : Int) == 0) = false := hof 0 hc0
          by_cases hc1 : s[k] = 42
          · have hc2 : ((s[k].toNat : Int) == 42) = true := by rw [hc1]; rfl
            clear hc0 hc1 hof
            go_wp2_with fail
            go_ret
            exact ⟨rfl, HB1.out⟩
          · have b1 : ((s[k].toNat : Int) == 42) = false := hof 42 hc1
            by_cases hc3 : s[k] = 47
            · have hc2 : ((s[k].toNat : Int) == 47) = true := by rw [hc3]; rfl
              clear hc0 hc1 hc3 hof
              go_wp2_with fail
              go_ret
              exact ⟨rfl, HB1.out⟩
            · have b2 : ((s[k].toNat : Int) == 47) = false := hof 47 hc3
              have HN := Lib.hid (show ∀ i : Nat, i < k + 1 → (bytes s)[i]? ≠ some 0 ∧ (bytes s)[i]? ≠ some 42 ∧ (bytes s)[i]? ≠ some 47 from fun i hi => by
                rcases Nat.lt_succ_iff_lt_or_eq.1 hi with h | rfl
                · exact HO.out i h
                · rw [HGX.out]; exact ⟨fun e => hc0 (Option.some.inj e), fun e => hc1 (Option.some.inj e), fun e => hc3 (Option.some.inj e)⟩)
              clear hc0 hc1 hc3 hof
              go_wp2_with fail
              go_roundg (s.size - (k + 1))
              case measure => have := HGK.out; omega
              case rel => exact ⟨k + 1, by go_num, by omega, rfl, rfl, HN.out⟩
      · obtain rfl : k = s.size := by omega
        have hno : ∀ c : UInt8, c ∈ bytes s → (c ≠ 0 ∧ c ≠ 42 ∧ c ≠ 47) := fun c hm => by
          obtain ⟨i, hi, rfl⟩ := List.mem_iff_getElem.1 hm
          have := HO.out i (by rw [bytes_len] at hi; exact hi)
          rw [List.getElem?_eq_getElem hi] at this
          exact ⟨fun e => this.1 (by rw [e]), fun e => this.2.1 (by rw [e]), fun e => this.2.2 (by rw [e])⟩
        have HNO := Lib.hid hno
        have hsn : s.size ≤ 300 := by omega
        clear hno HO HGK
        go_wp2_with fail
        have HTO := Lib.hid (show TokOff (wr.alloc (Obj.cells #[.int .u8 115, .string (s ++ { data := #[59] }), .int .i64 0, .int .i64 0, .int .u8 113, .string (({ data := #[59] } : ByteArray) ++ s), .int .i64 0, .int .i64 0] 28)) (some ⟨wr.heap.size, 0, none⟩) [⟨115, bytes (s ++ { data := #[59] }), 0, 0⟩, ⟨113, bytes (({ data := #[59] } : ByteArray) ++ s), 0, 0⟩] from two_toks wr 115 113 (s ++ { data := #[59] }) (({ data := #[59] } : ByteArray) ++ s))
        have HB2 := Lib.hid (HB1.out.alloc HB1.out.size (Obj.cells #[.int .u8 115, .string (s ++ { data := #[59] }), .int .i64 0, .int .i64 0, .int .u8 113, .string (({ data := #[59] } : ByteArray) ++ s), .int .i64 0, .int .i64 0] 28))
        have HM2 := Lib.hid ((HB2.out.cell (p := ⟨0, 0, none⟩) HW0.out).trans HM.out)
        generalize wr.alloc (Obj.cells #[.int .u8 115, .string (s ++ { data := #[59] }), .int .i64 0, .int .i64 0, .int .u8 113, .string (({ data := #[59] } : ByteArray) ++ s), .int .i64 0, .int .i64 0] 28) = w2 at HTO HB2 HM2 ⊢
        refine (HFI.out _ [⟨115, bytes (s ++ { data := #[59] }), 0, 0⟩, ⟨113, bytes (({ data := #[59] } : ByteArray) ++ s), 0, 0⟩] 2 2 w2 rfl (by omega) HTO.out (fun q hq => by
          rcases List.mem_cons.1 hq with rfl | hq
          · show (bytes _).length ≤ 2000; rw [bytes_len, ByteArray.size_append]; show s.size + 1 ≤ 2000; omega
          · rw [List.mem_singleton] at hq; subst hq
            show (bytes _).length ≤ 2000; rw [bytes_len, ByteArray.size_append]; show 1 + s.size ≤ 2000; omega) HM2.out).mono ?_; rintro e w3 ⟨rfl, hb3⟩
        have HB3 := Lib.hid (HB2.out.step hb3 HB2.out.size)
        have HM3 := Lib.hid ((HB3.out.cell (p := ⟨0, 0, none⟩) HW0.out).trans HM.out)
        obtain ⟨X, hX⟩ : ∃ X : ByteArray, X = ⟨(fieldsB [⟨115, bytes (s ++ { data := #[59] }), 0, 0⟩, ⟨113, bytes (({ data := #[59] } : ByteArray) ++ s), 0, 0⟩]).toArray⟩ := ⟨_, rfl⟩
        rw [← hX]
        obtain ⟨hX1, hX2⟩ := signs_fields s hX
        have HTK := Lib.hid (signs_tokens s X hX1 (fun h => (HNO.out 0 h).1 rfl) (fun h => (HNO.out 42 h).2.1 rfl) (fun h => (HNO.out 47 h).2.2 rfl))
        clear hb3 hX hX1 HB2 HM2 HTO HB1
        go_wp2_with fail
        refine (HSP.out _ w3 (by simp only [ByteArray.size_append]; show 7 + s.size + 2 + X.size + 5 ≤ 2000; omega) HM3.out).mono ?_; rintro e w4 ⟨hb4, hcs⟩
        have HB4 := Lib.hid (HB3.out.step hb4 HB3.out.size)
        clear hb4 HB3 HM3
        obtain ⟨L0, hL0, hKT⟩ := HTK.out
        rcases hcs with ⟨hN, _⟩ | ⟨T, xs, n, p, c, hT, hxs, hn, hn1, hnc, rfl, hst, hin⟩
        · rw [hL0] at hN; cases hN
        · rw [hL0] at hT
          cases hT
          obtain ⟨q0, q1, q2, q4, hsp, e0, e1, e4⟩ := splits_signs hKT
          rw [hsp] at hxs
          obtain ⟨x0, x1, rfl⟩ : ∃ x0 x1, xs = [x0, x1] := by
            have h := congrArg List.length hxs
            match xs, h with
            | [x0, x1], _ => exact ⟨x0, x1, rfl⟩
          obtain rfl : 2 = n := hn
          simp only [List.map_cons, List.map_nil, List.cons.injEq, and_true] at hxs
          obtain ⟨u0, d0, t0⟩ := x0
          obtain ⟨u1, d1, t1⟩ := x1
          simp only at hxs
          obtain ⟨rfl, rfl⟩ := hxs
          obtain ⟨g, rfl, hg, a0, a1, a2⟩ := hst.get (i := 0) rfl
          obtain ⟨g', hgg, _, b0, b1, b2⟩ := hst.get (i := 1) rfl
          cases hgg
          have HA0 := Lib.hid (hin _ (List.mem_cons_self ..)).at
          have HA1 := Lib.hid (hin _ (List.mem_cons_of_mem _ (List.mem_cons_self ..))).at
          generalize St.lo ⟨u0, d0, [q0, q1, q2]⟩ = l0 at a1
          generalize St.hi ⟨u0, d0, [q0, q1, q2]⟩ = r0 at a2
          generalize St.lo ⟨u1, d1, [q4]⟩ = l1 at b1
          generalize St.hi ⟨u1, d1, [q4]⟩ = r1 at b2
          replace a0 : w4.cell? ⟨g, 0, none⟩ = some (.slice u0 3 d0) := a0
          replace a1 : w4.cell? ⟨g, 1, none⟩ = some (.int .i64 l0) := a1
          replace a2 : w4.cell? ⟨g, 2, none⟩ = some (.int .i64 r0) := a2
          replace b0 : w4.cell? ⟨g, 3, none⟩ = some (.slice u1 1 d1) := b0
          replace b1 : w4.cell? ⟨g, 4, none⟩ = some (.int .i64 l1) := b1
          replace b2 : w4.cell? ⟨g, 5, none⟩ = some (.int .i64 r1) := b2
          have HG1 := Lib.hid (show begins [q0, q1, q2] [[120]] = true by simp [begins, show q0.kind = 119 from congrArg Prod.fst e0, show q0.text = [120] from congrArg Prod.snd e0])
          have HG2 := Lib.hid (show begins [q4] [[121]] = true by simp [begins, show q4.kind = 119 from congrArg Prod.fst e4, show q4.text = [121] from congrArg Prod.snd e4])
          have HG3 := Lib.hid (show begins [q0, q1, q2] [[120], [59]] = false by simp [begins, show q1.kind = 115 from congrArg Prod.fst e1])
          obtain ⟨gt, hgu, hgt, _, t1, _, _⟩ := HA0.out 1 q1 rfl
          subst hgu
          rw [show q1.text = bytes s ++ [59] from congrArg Prod.snd e1] at t1
          have hte : (⟨(bytes s ++ [59]).toArray⟩ : ByteArray) = s ++ { data := #[59] } := by
            apply ByteArray.ext
            apply Array.ext'
            simp [bytes]
          rw [hte] at t1
          replace t1 : w4.cell? ⟨gt, 5, none⟩ = some (.string (s ++ { data := #[59] })) := t1
          have HT1 := Lib.hid t1
          clear hst hin hKT hL0 HTK e0 e1 e4 hsp hte t1
          go_wp2_with fail
          have hbx4 : Below w4.heap.size w4 (w4.alloc (.cells #[.string { data := #[120] }] 9)) := (Below.refl _ w4).alloc (Nat.le_refl _) _
          have hgx4 : g < w4.heap.size := World.block_lt_of_cell? w4 ⟨g, 0, none⟩ a0
          refine (HF.out (some ⟨gt, 0, none⟩) (some ⟨w4.heap.size, 0, none⟩) [q0, q1, q2] [[120]] 3 1 d0 1 l0 r0 _ rfl rfl (HA0.out.step hbx4) (fun i x hx => by
            match i, hx with
            | 0, hx => cases hx; exact ⟨_, rfl, by simp, World.cell?_alloc_new _ _ _ _⟩) (by decide)).mono ?_
          rintro e w5 ⟨rfl, hb5⟩
          rw [HG1.out]
          have hbb5 := hbx4.step hb5 hbx4.size
          have HB5 := Lib.hid (HB4.out.step hbb5 HB4.out.size)
          have HA05 := Lib.hid (HA0.out.step hbb5)
          have HA15 := Lib.hid (HA1.out.step hbb5)
          have HT15 := Lib.hid ((hbb5.cell (p := ⟨gt, 5, none⟩) (World.block_lt_of_cell? w4 ⟨gt, 5, none⟩ HT1.out)).trans HT1.out)
          replace a0 := (hbb5.cell (p := ⟨g, 0, none⟩) hgx4).trans a0
          replace a1 := (hbb5.cell (p := ⟨g, 1, none⟩) hgx4).trans a1
          replace a2 := (hbb5.cell (p := ⟨g, 2, none⟩) hgx4).trans a2
          replace b0 := (hbb5.cell (p := ⟨g, 3, none⟩) hgx4).trans b0
          replace b1 := (hbb5.cell (p := ⟨g, 4, none⟩) hgx4).trans b1
          replace b2 := (hbb5.cell (p := ⟨g, 5, none⟩) hgx4).trans b2
          clear hb5 hbb5 hbx4 hgx4 HA0 HA1 HT1 HB4
          have HA0 := HA05; have HA1 := HA15; have HT1 := HT15
          clear HA05 HA15 HT15
          go_wp2_with fail
          have hbx5 : Below w5.heap.size w5 (w5.alloc (.cells #[.string { data := #[121] }] 9)) := (Below.refl _ w5).alloc (Nat.le_refl _) _
          have hgx5 : g < w5.heap.size := World.block_lt_of_cell? w5 ⟨g, 0, none⟩ a0
          refine (HF.out u1 (some ⟨w5.heap.size, 0, none⟩) [q4] [[121]] 1 1 d1 1 l1 r1 _ rfl rfl (HA1.out.step hbx5) (fun i x hx => by
            match i, hx with
            | 0, hx => cases hx; exact ⟨_, rfl, by simp, World.cell?_alloc_new _ _ _ _⟩) (by decide)).mono ?_
          rintro e w6 ⟨rfl, hb6⟩
          rw [HG2.out]
          have hbb6 := hbx5.step hb6 hbx5.size
          have HB6 := Lib.hid (HB5.out.step hbb6 HB5.out.size)
          have HA06 := Lib.hid (HA0.out.step hbb6)
          have HA16 := Lib.hid (HA1.out.step hbb6)
          have HT16 := Lib.hid ((hbb6.cell (p := ⟨gt, 5, none⟩) (World.block_lt_of_cell? w5 ⟨gt, 5, none⟩ HT1.out)).trans HT1.out)
          replace a0 := (hbb6.cell (p := ⟨g, 0, none⟩) hgx5).trans a0
          replace a1 := (hbb6.cell (p := ⟨g, 1, none⟩) hgx5).trans a1
          replace a2 := (hbb6.cell (p := ⟨g, 2, none⟩) hgx5).trans a2
          replace b0 := (hbb6.cell (p := ⟨g, 3, none⟩) hgx5).trans b0
          replace b1 := (hbb6.cell (p := ⟨g, 4, none⟩) hgx5).trans b1
          replace b2 := (hbb6.cell (p := ⟨g, 5, none⟩) hgx5).trans b2
          clear hb6 hbb6 hbx5 hgx5 HA0 HA1 HT1 HB5
          have HA0 := HA06; have HA1 := HA16; have HT1 := HT16
          clear HA06 HA16 HT16
          go_wp2_with fail
          have hbx6 : Below w6.heap.size w6 (w6.alloc (.cells #[.string { data := #[120] }, .string { data := #[59] }] 9)) := (Below.refl _ w6).alloc (Nat.le_refl _) _
          have hgx6 : g < w6.heap.size := World.block_lt_of_cell? w6 ⟨g, 0, none⟩ a0
          refine (HF.out (some ⟨gt, 0, none⟩) (some ⟨w6.heap.size, 0, none⟩) [q0, q1, q2] [[120], [59]] 3 2 d0 2 l0 r0 _ rfl rfl (HA0.out.step hbx6) (fun i x hx => by
            match i, hx with
            | 0, hx => cases hx; exact ⟨_, rfl, by simp, World.cell?_alloc_new _ _ _ _⟩
            | 1, hx => cases hx; exact ⟨_, rfl, by simp, World.cell?_alloc_new _ _ _ _⟩) (by decide)).mono ?_
          rintro e w7 ⟨rfl, hb7⟩
          rw [HG3.out]
          have hbb7 := hbx6.step hb7 hbx6.size
          have HB7 := Lib.hid (HB6.out.step hbb7 HB6.out.size)
          have HA07 := Lib.hid (HA0.out.step hbb7)
          have HA17 := Lib.hid (HA1.out.step hbb7)
          have HT17 := Lib.hid ((hbb7.cell (p := ⟨gt, 5, none⟩) (World.block_lt_of_cell? w6 ⟨gt, 5, none⟩ HT1.out)).trans HT1.out)
          replace a0 := (hbb7.cell (p := ⟨g, 0, none⟩) hgx6).trans a0
          replace a1 := (hbb7.cell (p := ⟨g, 1, none⟩) hgx6).trans a1
          replace a2 := (hbb7.cell (p := ⟨g, 2, none⟩) hgx6).trans a2
          replace b0 := (hbb7.cell (p := ⟨g, 3, none⟩) hgx6).trans b0
          replace b1 := (hbb7.cell (p := ⟨g, 4, none⟩) hgx6).trans b1
          replace b2 := (hbb7.cell (p := ⟨g, 5, none⟩) hgx6).trans b2
          clear hb7 hbb7 hbx6 hgx6 HA0 HA1 HT1 HB6
          have HA0 := HA07; have HA1 := HA17; have HT1 := HT17
          clear HA07 HA17 HT17
          have t1 := HT1.out
          go_wp2_with fail
          go_ret
          exact ⟨rfl, HB7.out⟩
  · have hl' : (300 : Int) < s.size := by omega
    go_enter Tryd.func6, Tryd.ntmps6
    go_wp2_with fail
    refine HSH.out.mono ?_; rintro e w1 ⟨rfl, hb1⟩
    have HB1 := Lib.hid hb1
    clear hb1 HSH
    go_wp2_with fail
    go_ret
    exact ⟨rfl, HB1.out⟩

set_option maxRecDepth 100000 in
theorem signs_lifted (os : Os) (started : os.Started) (H : Type) (enc : TypeId × Value → H) :
    ReturnsInHanded {} Tryd.checked os 6 .any (fun w args => (Rows.splitSignsSpec.pre enc Tryd.prog Tryd.f6 Rows.splitSignsRow.domain false w args ∧ laidMetH Tryd.prog [("unicode/utf8.acceptRanges", Rows.laid_unicode_utf8_acceptRanges), ("unicode/utf8.first", Rows.laid_unicode_utf8_first)] w) ∧ sizedMet enc Tryd.prog Tryd.f6 (OpenSpec.ofChange Rows.splitSignsSpec) false w args) (Rows.splitSignsSpec.post enc Tryd.prog Tryd.f6 false true false false) := by
  refine handed_laid (C := Tryd.checked) (X := fun w _ => laidMetH Tryd.prog [("unicode/utf8.acceptRanges", Rows.laid_unicode_utf8_acceptRanges), ("unicode/utf8.first", Rows.laid_unicode_utf8_first)] w) (fun _ _ _ hh h => h.of_heap hh) own started (by kernel_rfl) Tryd.func6
    (ChangeSpec.witness_shaped (enc := enc) (C := Tryd.checked) (os := os) (X := fun w _ => laidMetH Tryd.prog [("unicode/utf8.acceptRanges", Rows.laid_unicode_utf8_acceptRanges), ("unicode/utf8.first", Rows.laid_unicode_utf8_first)] w) false (World.laidAll Tryd.prog os [("unicode/utf8.acceptRanges", Rows.laid_unicode_utf8_acceptRanges), ("unicode/utf8.first", Rows.laid_unicode_utf8_first)]) #[.string { data := #[] }] 8 (World.laidAll_os _ _ _) (World.shaped_of_ZipB (by kernel_rfl) (by kernel_rfl)) (by kernel_rfl) (by kernel_rfl) (by kernel_rfl)
      (by rw [MakeChecks.laidMetH_plain _ _ _ (by kernel_rfl)]; exact laidMet_laidAll _ (by kernel_rfl) (by kernel_rfl))) ?_
  intro W base args ds gs before hval0 hW hsz0 hsh hL
  obtain ⟨m, hm⟩ : ∃ m, W.cell? ⟨0, 0, none⟩ = some (.int .i64 m) := Tryd.laysM143.s1_3 W hsh
  have hsz : (DataW.weightsEach Tryd.prog (Tryd.f6.params.toList ++ Rows.splitSignsSpec.plain.varTypes Tryd.prog) (ds ++ gs)).all (· ≤ reachBytes) = true := hsz0
  clear hsz0
  have hval : ∀ (j : Nat) t v, Tryd.f6.params[j]? = some t → args[j]? = some v → Value.okWide Tryd.prog W .any base t v := hval0
  have hW' := hW
  obtain ⟨p, q, hA0, hV, rfl, _, _⟩ := hW
  have hA : DataW.TrodAll enc Tryd.prog W 0 (fun _ => true) true Tryd.f6.params.toList args.toList ds p := hA0
  rw [Tryd.params6] at hA hval hsz
  obtain ⟨v0, d0, rfl, rfl, h0⟩ := trodAll_one hA
  obtain ⟨rfl, rfl⟩ := trodVars_none hV
  obtain ⟨s, rfl, rfl, rfl, hl_s⟩ := Go.ChangeMaps.open_string Tryd.underlying9 (hval 0 9 v0 rfl rfl) h0
  have hz_s : s.size ≤ 140737488351232 := by have := sized_string hsz (j := 0) (t := 9) rfl rfl; rw [size_list] at this; exact this
  refine (signs_ok s m W hz_s hm).mono fun e W' ⟨he, hb⟩ => ?_
  subst he
  exact ⟨_, rfl, law_shut laidOut (by kernel_rfl) (by kernel_rfl) Tryd.underlying4 rfl hW' rfl hb⟩

theorem signs_holds : Rows.SplitSignsSaid :=
  OpenClaim.holds_of_wide 6 Tryd.f6 rfl rfl rfl rfl rfl rfl rfl ⟨rfl, rfl, rfl, rfl, rfl⟩ rfl rfl rfl rfl rfl (by kernel_rfl) Tryd.func6 (by kernel_rfl)
    (of_decide_eq_true (by kernel_rfl)) (by unfold Func.isWrapper; rw [if_neg (of_decide_eq_false (by kernel_rfl))]; exact ⟨rfl, rfl⟩)
    (fun os started H enc _ => signs_lifted os started H enc)

theorem signs_card : Rows.SplitSignsCardSaid :=
  Claim7.holds_tied_plain_at .later [] [.data, .pinned] true _ false signs_holds (fun _ h => by cases h) (by kernel_rfl) (fun _ h => by cases h) splitSigns_row_tie rfl ⟨rfl, rfl⟩ (by kernel_rfl) rfl
    (fun f fn hf hfn => by
      obtain rfl : f = 6 := Option.some.inj ((show Tryd.prog.funcNamed "taxirank/taxiranklaw4.SplitSigns" = some 6 by kernel_rfl).symm.trans hf) |>.symm
      obtain rfl : fn = Tryd.f6 := (Option.some.inj (Tryd.func6.symm.trans hfn)).symm
      exact ⟨by kernel_rfl, fun j t ht => by
        rw [Tryd.params6] at ht
        have hm : t ∈ [9] := by simpa using Array.mem_of_getElem? ht
        have hall : ([9].all fun u => !Tryd.prog.wantsStandIn u) = true := by kernel_rfl
        exact (show Tryd.prog.wantsStandIn t = false by simpa using List.all_eq_true.1 hall t hm)⟩)
    (by kernel_rfl)
end Go.Proofs.YtckimeikiakfcaaDoor
