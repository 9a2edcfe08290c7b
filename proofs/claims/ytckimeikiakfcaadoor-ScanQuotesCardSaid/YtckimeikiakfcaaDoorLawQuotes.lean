/- A text between quotes is one token that says it, and so is a name, and a text of a tag: ScanQuotes answers true, whatever text it is called with, and leaves what was there as it was. (Over the listed variables, tied to the program's text.) -/
import Derived.Test.YtckimeikiakfcaaDoorCard
import Derived.Test.YtckimeikiakfcaaDoorQuotesM
import Derived.Test.YtckimeikiakfcaaDoorFieldsA
import Derived.Test.YtckimeikiakfcaaDoorShown
namespace Go.Proofs.YtckimeikiakfcaaDoor
open Go.RowKit Go.Lib Go.WideShapes Go.ChangeShapes Go.ChangeAt Go.Joins

theorem nb_cat (a b : ByteArray) : bytes (a ++ b) = bytes a ++ bytes b := by simp [bytes]

theorem sq_mem {c x : UInt8} (hx : x ≠ c) : ∀ {l : Bs}, x ∈ quoted c l → x ∈ l := by
  have hd : ∀ l : Bs, x ∈ doubled c l → x ∈ l := by
    intro l
    induction l with
    | nil => intro h; exact h
    | cons b r ih =>
      intro h
      rw [doubled] at h
      by_cases hb : b = c
      · rw [if_pos hb] at h
        simp at h
        rcases h with h | h
        · exact absurd h hx
        · exact List.mem_cons_of_mem _ (ih h)
      · rw [if_neg hb] at h
        simp at h
        rcases h with h | h
        · rw [h]; exact List.mem_cons_self ..
        · exact List.mem_cons_of_mem _ (ih h)
  intro l h
  unfold quoted at h
  simp at h
  rcases h with h | h | h
  · exact absurd h hx
  · exact hd l h
  · exact absurd h hx
theorem sq_length (c : UInt8) (l : Bs) : (quoted c l).length ≤ 2 * l.length + 2 := by
  unfold quoted
  rw [List.length_cons, List.length_append, doubled_length]
  have := List.count_le_length (a := c) (l := l)
  simp; omega

/-- Two tokens that the call itself laid. -/
theorem two_toks (w : World) (k0 k1 : UInt8) (X0 X1 : ByteArray) : TokOff (w.alloc (.cells #[.int .u8 (k0.toNat : Nat), .string X0, .int .i64 0, .int .i64 0, .int .u8 (k1.toNat : Nat), .string X1, .int .i64 0, .int .i64 0] 28)) (some ⟨w.heap.size, 0, none⟩) [⟨k0, bytes X0, 0, 0⟩, ⟨k1, bytes X1, 0, 0⟩] := by
  refine TokAt.off fun i q hq => ?_
  match i, hq with
  | 0, hq => cases hq; exact ⟨_, rfl, by simp, World.cell?_alloc_new _ _ _ _, World.cell?_alloc_new _ _ _ _, World.cell?_alloc_new _ _ _ _, World.cell?_alloc_new _ _ _ _⟩
  | 1, hq => cases hq; exact ⟨_, rfl, by simp, World.cell?_alloc_new _ _ _ _, World.cell?_alloc_new _ _ _ _, World.cell?_alloc_new _ _ _ _, World.cell?_alloc_new _ _ _ _⟩


theorem quoted_len (c : UInt8) (l : Bs) : (quoted c l).length = l.length + l.count c + 2 := by
  unfold quoted
  rw [List.length_cons, List.length_append, doubled_length]; simp

theorem quotes_fields (s : ByteArray) {F : ByteArray} (hF : F = ⟨(fieldsB [⟨115, bytes s, 0, 0⟩, ⟨113, bytes (({ data := #[120] } : ByteArray) ++ s), 0, 0⟩]).toArray⟩) : bytes F = quoted 39 (bytes s) ++ 32 :: quoted 34 (120 :: bytes s) ∧ F.size ≤ 3 * s.size + 6 := by
  have e : bytes F = quoted 39 (bytes s) ++ 32 :: quoted 34 (120 :: bytes s) := by
    rw [hF, fields_two, nb_cat]
    simp [bytes]
  refine ⟨e, ?_⟩
  have h3 := congrArg List.length e
  rw [bytes_len] at h3
  rw [h3]
  have h4 := counts_le 39 34 (by decide) (bytes s)
  have a1 := quoted_len 39 (bytes s)
  have a2 := quoted_len 34 (120 :: bytes s)
  rw [List.count_cons_of_ne (by decide), List.length_cons] at a2
  rw [List.length_append, List.length_cons, a1, a2]
  rw [bytes_len] at h4 ⊢
  omega

theorem quotes_tokens (s F : ByteArray) (hF : bytes F = quoted 39 (bytes s) ++ 32 :: quoted 34 (120 :: bytes s)) (h0 : (0 : UInt8) ∉ bytes s) : ∃ L, tokens (bytes F) = some L ∧ L.map kt = [(115, bytes s), (113, 120 :: bytes s)] := by
  rw [hF]
  refine tokens_kts ?_ (quotes_kts (bytes s) (120 :: bytes s) (by simp))
  intro h
  rcases List.mem_append.1 h with h | h
  · exact h0 (sq_mem (by decide) h)
  · rcases List.mem_cons.1 h with h | h
    · cases h
    · rcases List.mem_cons.1 (sq_mem (by decide) h) with h | h
      · cases h
      · exact h0 h
theorem tag_tokens (s : ByteArray) (h0 : (0 : UInt8) ∉ bytes s) (h : NoTag (bytes s)) : ∃ L, tokens (bytes ({ data := #[47, 42, 32, 120, 32, 42, 47, 32, 36, 113, 36] } ++ s ++ { data := #[36, 113, 36, 45, 45] })) = some L ∧ L.map kt = [(115, bytes s)] := by
  have e : bytes ({ data := #[47, 42, 32, 120, 32, 42, 47, 32, 36, 113, 36] } ++ s ++ { data := #[36, 113, 36, 45, 45] }) = 47 :: 42 :: 32 :: 120 :: 32 :: 42 :: 47 :: 32 :: 36 :: 113 :: 36 :: (bytes s ++ [36, 113, 36, 45, 45]) := by
    rw [nb_cat, nb_cat]
    simp [bytes]
  rw [e]
  refine tokens_kts ?_ (tag_kts (bytes s) h)
  intro h
  have : (0 : UInt8) ∈ bytes s := by simpa [bytes] using h
  exact h0 this

set_option maxRecDepth 100000 in
set_option maxHeartbeats 8000000 in
theorem quotes_ok (s : ByteArray) (m : Int) (w : World) (_hs : s.size ≤ 140737488351232) (hm : w.cell? ⟨0, 0, none⟩ = some (.int .i64 m)) :
    Calls Tryd.prog 4 #[.string s] w fun e w' => e = .returned (.bool true) ∧ Below w.heap.size w w' := by
  have HM := Lib.hid hm
  have HW0 := Lib.hid (World.block_lt_of_cell? w ⟨0, 0, none⟩ hm)
  have HSH := Lib.hid (shown_true m w hm)
  have HFI := Lib.hid (fun p T n c W h1 h2 h3 h4 h5 => fields_any p T n c m W h1 h2 h3 h4 h5)
  have HSC := Lib.hid (fun (S : ByteArray) (W : World) h1 h2 => scan_rows S m W h1 h2)
  clear hm
  by_cases hl : (s.size : Int) ≤ 500
  · go_enter Tryd.func4, Tryd.ntmps4
    go_wp2_with fail
    refine HSH.out.mono ?_; rintro e w1 ⟨rfl, hb1⟩
    have HB1 := Lib.hid hb1
    clear hb1 HSH
    go_wp2_with fail
    go_loopg [4] s.size (fun g v wr => ∃ k : Nat, v = .int .i64 k ∧ k ≤ s.size ∧ g = s.size - k ∧ wr = w1 ∧ ∀ i : Nat, i < k → (bytes s)[i]? ≠ some 0)
    case atStart => exact ⟨0, rfl, Nat.zero_le _, rfl, rfl, fun i h => absurd h (Nat.not_lt_zero _)⟩
    case round =>
      obtain ⟨k, rfl, hk, hg, rfl, ho⟩ := hrel
      have HO := Lib.hid ho; have HGK := Lib.hid hg
      clear ho hg
      by_cases hlt : k < s.size
      · have hlt' : (k : Int) < s.size := by omega
        have HGX := Lib.hid (show (bytes s)[k]? = some s[k] by rw [List.getElem?_eq_getElem (by rw [bytes_len]; exact hlt)]; rfl)
        by_cases hc0 : s[k] = 0
        · have hc2 : ((s[k].toNat : Int) == 0) = true := by rw [hc0]; rfl
          clear hc0
          go_wp2_with fail
          go_ret
          exact ⟨rfl, HB1.out⟩
        · have b0 : ((s[k].toNat : Int) == 0) = false := by
            rw [beq_eq_false_iff_ne]; intro e; exact hc0 (UInt8.toNat_inj.1 (show s[k].toNat = (0 : UInt8).toNat from by have : ((0 : UInt8).toNat : Int) = 0 := rfl; omega))
          have HN := Lib.hid (show ∀ i : Nat, i < k + 1 → (bytes s)[i]? ≠ some 0 from fun i hi => by
            rcases Nat.lt_succ_iff_lt_or_eq.1 hi with h | rfl
            · exact HO.out i h
            · rw [HGX.out]; exact fun e => hc0 (Option.some.inj e))
          clear hc0
          go_wp2_with fail
          go_roundg (s.size - (k + 1))
          case measure => have := HGK.out; omega
          case rel => exact ⟨k + 1, by go_num, by omega, rfl, rfl, HN.out⟩
      · obtain rfl : k = s.size := by omega
        have hno : (0 : UInt8) ∉ bytes s := fun hm => by
          obtain ⟨i, hi, he⟩ := List.mem_iff_getElem.1 hm
          exact HO.out i (by rw [bytes_len] at hi; exact hi) (by rw [List.getElem?_eq_getElem hi, he])
        have HNO := Lib.hid hno
        have hsn : s.size ≤ 500 := by omega
        clear hno HO HGK
        go_wp2_with fail
        have HTO := Lib.hid (show TokOff (wr.alloc (Obj.cells #[.int .u8 115, .string s, .int .i64 0, .int .i64 0, .int .u8 113, .string (({ data := #[120] } : ByteArray) ++ s), .int .i64 0, .int .i64 0] 28)) (some ⟨wr.heap.size, 0, none⟩) [⟨115, bytes s, 0, 0⟩, ⟨113, bytes (({ data := #[120] } : ByteArray) ++ s), 0, 0⟩] from two_toks wr 115 113 s (({ data := #[120] } : ByteArray) ++ s))
        have HB2 := Lib.hid (HB1.out.alloc HB1.out.size (Obj.cells #[.int .u8 115, .string s, .int .i64 0, .int .i64 0, .int .u8 113, .string (({ data := #[120] } : ByteArray) ++ s), .int .i64 0, .int .i64 0] 28))
        have HM2 := Lib.hid ((HB2.out.cell (p := ⟨0, 0, none⟩) HW0.out).trans HM.out)
        generalize wr.alloc (Obj.cells #[.int .u8 115, .string s, .int .i64 0, .int .i64 0, .int .u8 113, .string (({ data := #[120] } : ByteArray) ++ s), .int .i64 0, .int .i64 0] 28) = w2 at HTO HB2 HM2 ⊢
        refine (HFI.out _ [⟨115, bytes s, 0, 0⟩, ⟨113, bytes (({ data := #[120] } : ByteArray) ++ s), 0, 0⟩] 2 2 w2 rfl (by omega) HTO.out (fun q hq => by
          rcases List.mem_cons.1 hq with rfl | hq
          · show (bytes _).length ≤ 2000; rw [bytes_len]; omega
          · rw [List.mem_singleton] at hq; subst hq
            show (bytes _).length ≤ 2000; rw [bytes_len, ByteArray.size_append]; show 1 + s.size ≤ 2000; omega) HM2.out).mono ?_; rintro e w3 ⟨rfl, hb3⟩
        have HB3 := Lib.hid (HB2.out.step hb3 HB2.out.size)
        have HM3 := Lib.hid ((HB3.out.cell (p := ⟨0, 0, none⟩) HW0.out).trans HM.out)
        obtain ⟨X, hX⟩ : ∃ X : ByteArray, X = ⟨(fieldsB [⟨115, bytes s, 0, 0⟩, ⟨113, bytes (({ data := #[120] } : ByteArray) ++ s), 0, 0⟩]).toArray⟩ := ⟨_, rfl⟩
        rw [← hX]
        obtain ⟨hX1, hX2⟩ := quotes_fields s hX
        have HTK := Lib.hid (quotes_tokens s X hX1 HNO.out)
        clear hb3 hX hX1 HB2 HM2 HTO HB1
        go_wp2_with fail
        refine (HSC.out X w3 (by omega) HM3.out).mono ?_; rintro e w4 ⟨hb4, hcs⟩
        have HB4 := Lib.hid (HB3.out.step hb4 HB3.out.size)
        have HM4 := Lib.hid ((HB4.out.cell (p := ⟨0, 0, none⟩) HW0.out).trans HM.out)
        clear hb4 HB3 HM3
        obtain ⟨L0, hL0, hKT⟩ := HTK.out
        rcases hcs with ⟨hN, _⟩ | ⟨L, n, p, c, hN, hLn, hn2, rfl, hat⟩
        · rw [hL0] at hN; cases hN
        · rw [hL0] at hN
          cases hN
          obtain ⟨q0, q1, rfl⟩ : ∃ q0 q1, L0 = [q0, q1] := by
            have h := congrArg List.length hKT
            match L0, h with
            | [q0, q1], _ => exact ⟨q0, q1, rfl⟩
          obtain rfl : 2 = n := hLn
          obtain ⟨k0, t0, lo0, hi0⟩ := q0
          obtain ⟨k1, t1, lo1, hi1⟩ := q1
          simp only [List.map_cons, List.map_nil, List.cons.injEq, and_true, kt, Prod.mk.injEq] at hKT
          obtain ⟨⟨rfl, rfl⟩, rfl, rfl⟩ := hKT
          obtain ⟨g, rfl, hg4, a0, a1, _, _⟩ := hat 0 _ rfl
          obtain ⟨g', hgg, _, d0, d1, _, _⟩ := hat 1 _ rfl
          cases hgg
          have hte : (⟨(120 :: bytes s).toArray⟩ : ByteArray) = ({ data := #[120] } : ByteArray) ++ s := by
            apply ByteArray.ext
            apply Array.ext'
            simp [bytes]
          rw [hte] at d1
          replace a0 : w4.cell? ⟨g, 0, none⟩ = some (.int .u8 115) := a0
          replace a1 : w4.cell? ⟨g, 1, none⟩ = some (.string s) := a1
          replace d0 : w4.cell? ⟨g, 4, none⟩ = some (.int .u8 113) := d0
          replace d1 : w4.cell? ⟨g, 5, none⟩ = some (.string (({ data := #[120] } : ByteArray) ++ s)) := d1
          clear hat hL0 HTK hte
          go_wp2_with fail
          clear a0 a1 d0 d1
          go_loopg [7] s.size (fun g v wr => ∃ k : Nat, v = .int .i64 k ∧ k ≤ s.size ∧ g = s.size - k ∧ wr = w4 ∧ ∀ i : Nat, i < k → i + 3 ≤ (bytes s).length → ((bytes s).drop i).take 3 ≠ [36, 113, 36])
          case atStart => exact ⟨0, rfl, Nat.zero_le _, rfl, rfl, fun i h => absurd h (Nat.not_lt_zero _)⟩
          case round =>
            obtain ⟨k, rfl, hk, hg, rfl, ho⟩ := hrel
            have HO := Lib.hid ho; have HGK := Lib.hid hg
            clear ho hg
            by_cases hlt : k + 3 ≤ s.size
            · have hlt' : (k : Int) + 3 ≤ s.size := by omega
              have HEX := Lib.hid (show (s.extract k (k + 3)).toList = ((bytes s).drop k).take 3 by rw [Lib.toList_data, extract_eq]; simp)
              cases hb : ((s.extract k (k + 3)).toList == [36, 113, 36]) with
              | true =>
                go_wp2_with fail
                go_ret
                exact ⟨rfl, HB4.out⟩
              | false =>
                have HN := Lib.hid (show ∀ i : Nat, i < k + 1 → i + 3 ≤ (bytes s).length → ((bytes s).drop i).take 3 ≠ [36, 113, 36] from fun i hi h3 => by
                  rcases Nat.lt_succ_iff_lt_or_eq.1 hi with h | rfl
                  · exact HO.out i h h3
                  · intro e; rw [HEX.out, e] at hb; simp at hb)
                go_wp2_with fail
                go_roundg (s.size - (k + 1))
                case measure => have := HGK.out; omega
                case rel => exact ⟨k + 1, by go_num, by omega, rfl, rfl, HN.out⟩
            · have hge : (s.size : Int) < k + 3 := by omega
              have HN1 := Lib.hid (show ∀ i : Nat, i + 3 ≤ (bytes s).length → ((bytes s).drop i).take 3 ≠ [36, 113, 36] from fun i h3 => HO.out i (by rw [bytes_len] at h3; omega) h3)
              clear HO HGK
              by_cases h0 : s.size = 0
              · have hz0 : decide (0 < s.size) = false := decide_eq_false (by omega)
                have hz1 : (s.size : Int) ≤ 1 := by omega
                have HNT := Lib.hid (show NoTag (bytes s) from ⟨HN1.out, fun h => by rw [bytes_len] at h; omega⟩)
                clear h0 HN1
                have HTG := Lib.hid (tag_tokens s HNO.out HNT.out)
                go_wp2_with fail
                refine (HSC.out _ wr (by simp only [ByteArray.size_append]; show 11 + s.size + 5 ≤ 2000; omega) HM4.out).mono ?_; rintro e w5 ⟨hb5, hcs5⟩
                have HB5 := Lib.hid (HB4.out.step hb5 HB4.out.size)
                clear hb5
                obtain ⟨L5, hL5, hK5⟩ := HTG.out
                rcases hcs5 with ⟨hN, _⟩ | ⟨L, n5, p5, c5, hN, hLn5, hn5, rfl, hat5⟩
                · rw [hL5] at hN; cases hN
                · rw [hL5] at hN
                  cases hN
                  obtain ⟨q5, rfl⟩ : ∃ q5, L5 = [q5] := by
                    have h := congrArg List.length hK5
                    match L5, h with
                    | [q5], _ => exact ⟨q5, rfl⟩
                  obtain rfl : 1 = n5 := hLn5
                  obtain ⟨k5, t5, lo5, hi5⟩ := q5
                  simp only [List.map_cons, List.map_nil, List.cons.injEq, and_true, kt, Prod.mk.injEq] at hK5
                  obtain ⟨rfl, rfl⟩ := hK5
                  obtain ⟨g5, rfl, hg5, z0, z1, _, _⟩ := hat5 0 _ rfl
                  replace z0 : w5.cell? ⟨g5, 0, none⟩ = some (.int .u8 115) := z0
                  replace z1 : w5.cell? ⟨g5, 1, none⟩ = some (.string s) := z1
                  clear hat5 hL5 HTG
                  go_wp2_with fail
                  go_ret
                  exact ⟨rfl, HB5.out⟩
              · have hp0 : 0 < s.size := by omega
                have hx1 : s.size - 1 < s.size := by omega
                cases hb1 : ((s[s.size - 1].toNat : Int) == 36) with
                | true =>
                  clear h0
                  go_wp2_with fail
                  go_ret
                  exact ⟨rfl, HB4.out⟩
                | false =>
                  by_cases h2 : 2 ≤ s.size
                  · have hz1 : (1 : Int) < s.size := by omega
                    have HEX := Lib.hid (show (s.extract (s.size - 2) s.size).toList = (bytes s).drop (s.size - 2) by
                      rw [Lib.toList_data, extract_eq]
                      show ((bytes s).drop (s.size - 2)).take (s.size - (s.size - 2)) = _
                      exact List.take_of_length_le (by rw [List.length_drop, bytes_len]; omega))
                    cases hb2 : ((s.extract (s.size - 2) s.size).toList == [36, 113]) with
                    | true =>
                      clear h0
                      go_wp2_with fail
                      go_ret
                      exact ⟨rfl, HB4.out⟩
                    | false =>
                      have HNT := Lib.hid (show NoTag (bytes s) from ⟨HN1.out, fun _ e => by rw [bytes_len] at e; rw [HEX.out, e] at hb2; simp at hb2⟩)
                      clear h0 HN1
                      have HTG := Lib.hid (tag_tokens s HNO.out HNT.out)
                      go_wp2_with fail
                      refine (HSC.out _ wr (by simp only [ByteArray.size_append]; show 11 + s.size + 5 ≤ 2000; omega) HM4.out).mono ?_; rintro e w5 ⟨hb5, hcs5⟩
                      have HB5 := Lib.hid (HB4.out.step hb5 HB4.out.size)
                      clear hb5
                      obtain ⟨L5, hL5, hK5⟩ := HTG.out
                      rcases hcs5 with ⟨hN, _⟩ | ⟨L, n5, p5, c5, hN, hLn5, hn5, rfl, hat5⟩
                      · rw [hL5] at hN; cases hN
                      · rw [hL5] at hN
                        cases hN
                        obtain ⟨q5, rfl⟩ : ∃ q5, L5 = [q5] := by
                          have h := congrArg List.length hK5
                          match L5, h with
                          | [q5], _ => exact ⟨q5, rfl⟩
                        obtain rfl : 1 = n5 := hLn5
                        obtain ⟨k5, t5, lo5, hi5⟩ := q5
                        simp only [List.map_cons, List.map_nil, List.cons.injEq, and_true, kt, Prod.mk.injEq] at hK5
                        obtain ⟨rfl, rfl⟩ := hK5
                        obtain ⟨g5, rfl, hg5, z0, z1, _, _⟩ := hat5 0 _ rfl
                        replace z0 : w5.cell? ⟨g5, 0, none⟩ = some (.int .u8 115) := z0
                        replace z1 : w5.cell? ⟨g5, 1, none⟩ = some (.string s) := z1
                        clear hat5 hL5 HTG
                        go_wp2_with fail
                        go_ret
                        exact ⟨rfl, HB5.out⟩
                  · have hz1 : (s.size : Int) ≤ 1 := by omega
                    have HNT := Lib.hid (show NoTag (bytes s) from ⟨HN1.out, fun h => by rw [bytes_len] at h; omega⟩)
                    clear h0 HN1
                    have HTG := Lib.hid (tag_tokens s HNO.out HNT.out)
                    go_wp2_with fail
                    refine (HSC.out _ wr (by simp only [ByteArray.size_append]; show 11 + s.size + 5 ≤ 2000; omega) HM4.out).mono ?_; rintro e w5 ⟨hb5, hcs5⟩
                    have HB5 := Lib.hid (HB4.out.step hb5 HB4.out.size)
                    clear hb5
                    obtain ⟨L5, hL5, hK5⟩ := HTG.out
                    rcases hcs5 with ⟨hN, _⟩ | ⟨L, n5, p5, c5, hN, hLn5, hn5, rfl, hat5⟩
                    · rw [hL5] at hN; cases hN
                    · rw [hL5] at hN
                      cases hN
                      obtain ⟨q5, rfl⟩ : ∃ q5, L5 = [q5] := by
                        have h := congrArg List.length hK5
                        match L5, h with
                        | [q5], _ => exact ⟨q5, rfl⟩
                      obtain rfl : 1 = n5 := hLn5
                      obtain ⟨k5, t5, lo5, hi5⟩ := q5
                      simp only [List.map_cons, List.map_nil, List.cons.injEq, and_true, kt, Prod.mk.injEq] at hK5
                      obtain ⟨rfl, rfl⟩ := hK5
                      obtain ⟨g5, rfl, hg5, z0, z1, _, _⟩ := hat5 0 _ rfl
                      replace z0 : w5.cell? ⟨g5, 0, none⟩ = some (.int .u8 115) := z0
                      replace z1 : w5.cell? ⟨g5, 1, none⟩ = some (.string s) := z1
                      clear hat5 hL5 HTG
                      go_wp2_with fail
                      go_ret
                      exact ⟨rfl, HB5.out⟩
  · have hl' : (500 : Int) < s.size := by omega
    go_enter Tryd.func4, Tryd.ntmps4
    go_wp2_with fail
    refine HSH.out.mono ?_; rintro e w1 ⟨rfl, hb1⟩
    have HB1 := Lib.hid hb1
    clear hb1 HSH
    go_wp2_with fail
    go_ret
    exact ⟨rfl, HB1.out⟩

set_option maxRecDepth 100000 in
theorem quotes_lifted (os : Os) (started : os.Started) (H : Type) (enc : TypeId × Value → H) :
    ReturnsInHanded {} Tryd.checked os 4 .any (fun w args => (Rows.scanQuotesSpec.pre enc Tryd.prog Tryd.f4 Rows.scanQuotesRow.domain false w args ∧ laidMetH Tryd.prog [("unicode/utf8.acceptRanges", Rows.laid_unicode_utf8_acceptRanges), ("unicode/utf8.first", Rows.laid_unicode_utf8_first)] w) ∧ sizedMet enc Tryd.prog Tryd.f4 (OpenSpec.ofChange Rows.scanQuotesSpec) false w args) (Rows.scanQuotesSpec.post enc Tryd.prog Tryd.f4 false true false false) := by
  refine handed_laid (C := Tryd.checked) (X := fun w _ => laidMetH Tryd.prog [("unicode/utf8.acceptRanges", Rows.laid_unicode_utf8_acceptRanges), ("unicode/utf8.first", Rows.laid_unicode_utf8_first)] w) (fun _ _ _ hh h => h.of_heap hh) own started (by kernel_rfl) Tryd.func4
    (ChangeSpec.witness_shaped (enc := enc) (C := Tryd.checked) (os := os) (X := fun w _ => laidMetH Tryd.prog [("unicode/utf8.acceptRanges", Rows.laid_unicode_utf8_acceptRanges), ("unicode/utf8.first", Rows.laid_unicode_utf8_first)] w) false (World.laidAll Tryd.prog os [("unicode/utf8.acceptRanges", Rows.laid_unicode_utf8_acceptRanges), ("unicode/utf8.first", Rows.laid_unicode_utf8_first)]) #[.string { data := #[] }] 8 (World.laidAll_os _ _ _) (World.shaped_of_ZipB (by kernel_rfl) (by kernel_rfl)) (by kernel_rfl) (by kernel_rfl) (by kernel_rfl)
      (by rw [MakeChecks.laidMetH_plain _ _ _ (by kernel_rfl)]; exact laidMet_laidAll _ (by kernel_rfl) (by kernel_rfl))) ?_
  intro W base args ds gs before hval0 hW hsz0 hsh hL
  obtain ⟨m, hm⟩ : ∃ m, W.cell? ⟨0, 0, none⟩ = some (.int .i64 m) := Tryd.laysM143.s1_3 W hsh
  have hsz : (DataW.weightsEach Tryd.prog (Tryd.f4.params.toList ++ Rows.scanQuotesSpec.plain.varTypes Tryd.prog) (ds ++ gs)).all (· ≤ reachBytes) = true := hsz0
  clear hsz0
  have hval : ∀ (j : Nat) t v, Tryd.f4.params[j]? = some t → args[j]? = some v → Value.okWide Tryd.prog W .any base t v := hval0
  have hW' := hW
  obtain ⟨p, q, hA0, hV, rfl, _, _⟩ := hW
  have hA : DataW.TrodAll enc Tryd.prog W 0 (fun _ => true) true Tryd.f4.params.toList args.toList ds p := hA0
  rw [Tryd.params4] at hA hval hsz
  obtain ⟨v0, d0, rfl, rfl, h0⟩ := trodAll_one hA
  obtain ⟨rfl, rfl⟩ := trodVars_none hV
  obtain ⟨s, rfl, rfl, rfl, hl_s⟩ := Go.ChangeMaps.open_string Tryd.underlying9 (hval 0 9 v0 rfl rfl) h0
  have hz_s : s.size ≤ 140737488351232 := by have := sized_string hsz (j := 0) (t := 9) rfl rfl; rw [size_list] at this; exact this
  refine (quotes_ok s m W hz_s hm).mono fun e W' ⟨he, hb⟩ => ?_
  subst he
  exact ⟨_, rfl, law_shut laidOut (by kernel_rfl) (by kernel_rfl) Tryd.underlying4 rfl hW' rfl hb⟩

theorem quotes_holds : Rows.ScanQuotesSaid :=
  OpenClaim.holds_of_wide 4 Tryd.f4 rfl rfl rfl rfl rfl rfl rfl ⟨rfl, rfl, rfl, rfl, rfl⟩ rfl rfl rfl rfl rfl (by kernel_rfl) Tryd.func4 (by kernel_rfl)
    (of_decide_eq_true (by kernel_rfl)) (by unfold Func.isWrapper; rw [if_neg (of_decide_eq_false (by kernel_rfl))]; exact ⟨rfl, rfl⟩)
    (fun os started H enc _ => quotes_lifted os started H enc)

theorem quotes_card : Rows.ScanQuotesCardSaid :=
  Claim7.holds_tied_plain_at .later [] [.data, .pinned] true _ false quotes_holds (fun _ h => by cases h) (by kernel_rfl) (fun _ h => by cases h) scanQuotes_row_tie rfl ⟨rfl, rfl⟩ (by kernel_rfl) rfl
    (fun f fn hf hfn => by
      obtain rfl : f = 4 := Option.some.inj ((show Tryd.prog.funcNamed "taxirank/taxiranklaw3.ScanQuotes" = some 4 by kernel_rfl).symm.trans hf) |>.symm
      obtain rfl : fn = Tryd.f4 := (Option.some.inj (Tryd.func4.symm.trans hfn)).symm
      exact ⟨by kernel_rfl, fun j t ht => by
        rw [Tryd.params4] at ht
        have hm : t ∈ [9] := by simpa using Array.mem_of_getElem? ht
        have hall : ([9].all fun u => !Tryd.prog.wantsStandIn u) = true := by kernel_rfl
        exact (show Tryd.prog.wantsStandIn t = false by simpa using List.all_eq_true.1 hall t hm)⟩)
    (by kernel_rfl)
end Go.Proofs.YtckimeikiakfcaaDoor
