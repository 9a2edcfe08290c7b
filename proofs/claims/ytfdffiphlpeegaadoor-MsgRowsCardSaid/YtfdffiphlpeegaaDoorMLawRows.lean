/- Any values, any of them none: MsgRows answers true, and leaves what was there as it was. -/
import Derived.Test.YtfdffiphlpeegaaDoorMRowsM
import Derived.Test.YtfdffiphlpeegaaDoorMMob
import Derived.Test.YtfdffiphlpeegaaDoorDCard
import Derived.Test.YtfdffiphlpeegaaDoorDEncX
import Derived.Test.YtfdffiphlpeegaaDoorMCutsM
namespace Go.Proofs.YtfdffiphlpeegaaDoor
open Go.RowKit Go.Lib Go.WideShapes Go.ChangeShapes Go.ChangeAt Go.Joins

theorem row_encV_ok (c : UInt8) (B : Bs) (h : B.length ≤ 10000) : encV c (some B) = .tuple #[.agg #[.int .u8 (c.toNat : Nat), .string ⟨B.toArray⟩], .int .i64 0] := by
  have h0 : encE (some B) = 0 := by unfold encE; simp only; rw [if_neg (by omega)]
  unfold encV
  rw [if_pos h0, h0]; rfl
theorem row_encV_no (c : UInt8) : encV c none = .tuple #[.agg #[.int .u8 0, .string { data := #[] }], .int .i64 1] := rfl
set_option maxRecDepth 100000 in
set_option maxHeartbeats 16000000 in
theorem rows_walk (w : World) (L : List Bs) (lv : Value) (no' : Int) (_ : -9223372036854775808 ≤ no' ∧ no' ≤ 9223372036854775807) (hT1 : TextsIn w lv L) (hz1 : ∀ t ∈ L, t.length ≤ 140737488351232) :
    Calls Tryd.prog 7 #[lv, .int .i64 no'] w fun e w' => e = .returned (.bool true) ∧ Below w.heap.size w w' := by
  have H1 := Lib.hid hT1
  have Z1 := Lib.hid hz1
  obtain ⟨a1, n1, s1, rfl, hn1, hns1, hs9, hcell⟩ := hT1
  have HC := Lib.hid hcell
  have HN1 := Lib.hid hn1
  clear hcell hz1 hn1
  go_enter Tryd.func7, Tryd.ntmps7
  go_wp2_with fail
  refine (shown_any _).mono ?_; rintro e w1 ⟨rfl, hb⟩
  have B1 := Lib.hid hb
  clear hb
  by_cases h110 : (110 : Int) < n1
  · go_wp2_with fail
    go_ret
    exact ⟨rfl, B1.out⟩
  have h110' : n1 ≤ 110 := by omega
  clear h110
  go_wp2_with fail
  obtain ⟨ii, hi, y0, y1, y2⟩ := info_parts info_i64
  obtain ⟨is', hi', z0, z1, z2⟩ := info_parts info_str
  have M0 := mob_new w1 68 n1
  obtain ⟨W1, hW1⟩ : ∃ x, x = (w1.alloc (.cells #[.int .i64 n1] 3)).alloc (.cells #[.int .u8 68, .slice none 0 0, .slice (some ⟨w1.heap.size, 0, none⟩) 1 1] 28) := ⟨_, rfl⟩
  rw [← hW1] at M0 ⊢
  clear hW1
  have HM0 := Lib.hid M0
  clear M0
  obtain ⟨no, hno'⟩ : ∃ no : Nat → Bool, no = fun k => (bits BinOp.and .i64 (no' / 2 ^ (k % 20)) 1 == 1) := ⟨_, rfl⟩
  have HNO := Lib.hid hno'
  clear hno'
  go_loopw [7, 8] (fun left i wx => ∃ (k : Nat) (T : List Bs) (N : List Int) (tl nl : Nat) (ta na : Option Addr) (tc nc : Nat), k ≤ n1 ∧ i = .int .i64 k ∧ left = .int .i64 (3000 - 4 * k - tot (L.take k)) ∧ T = vT no 0 (L.take k) ∧ N = (n1 : Int) :: vN no 0 (L.take k) ∧ T.length = tl ∧ N.length = nl ∧ Mob w1.heap.size (w1.heap.size + 1) w1 wx 68 T N (.slice ta tl tc) (.slice na nl nc)) (fun _ i _ => n1 - (RowKit.intOf i).toNat)
  case atStart => exact ⟨0, _, _, _, _, _, _, _, _, Nat.zero_le _, rfl, rfl, rfl, rfl, rfl, rfl, HM0.out⟩
  case round =>
    obtain ⟨k, T, N, tl, nl, ta, na, tc, nc, hk, rfl, rfl, hT, hN, htl, hnl, hM⟩ := hrel
    have hzr := hM.lt
    have HM := Lib.hid hM
    have HT := Lib.hid hT; have HN := Lib.hid hN; have HTL := Lib.hid htl; have HNL := Lib.hid hnl
    have hkk : (L.take k).length = k := by rw [List.length_take]; have := HN1.out; omega
    have htb : tl ≤ 110 := by
      have := vT_length no (L.take k) 0
      rw [hkk, ← hT, htl] at this; omega
    have hnb : nl ≤ 111 := by
      have := congrArg List.length hN
      rw [List.length_cons, vN_length, hkk, hnl] at this; omega
    have htot := tot_bound (L.take k) 140737488351232 (fun t ht => Z1.out t (List.mem_of_mem_take ht))
    rw [hkk] at htot
    clear hM hT hN htl hnl hkk
    by_cases hlt : k < n1
    · have hltL : k < L.length := by have := HN1.out; omega
      have htot2 := tot_snoc hltL
      obtain ⟨t, ht⟩ : ∃ t, t = L[k] := ⟨_, rfl⟩
      have hcell : ∃ g off, a1 = some ⟨g, off, none⟩ ∧ g < w.heap.size ∧ w.cell? ⟨g, off + k, none⟩ = some (.string ⟨t.toArray⟩) := by
        rcases HC.out with h | ⟨g, off, h1, h2, h3⟩
        · rw [h] at hltL; cases hltL
        · exact ⟨g, off, h1, h2, h3 k t (by rw [List.getElem?_eq_getElem hltL, ht])⟩
      obtain ⟨g, off, rfl, hg, hcw⟩ := hcell
      have hW := B1.out.step HM.out.below B1.out.size
      have hc := (hW.cell (p := ⟨g, off + k, none⟩) hg).trans hcw
      have HCW := Lib.hid (show ∀ W, Below w1.heap.size w1 W → W.cell? ⟨g, off + k, none⟩ = some (.string ⟨t.toArray⟩) from fun W hW => ((B1.out.step hW B1.out.size).cell (p := ⟨g, off + k, none⟩) hg).trans hcw)
      have hgw : g < wr.heap.size := Nat.lt_of_lt_of_le hg hW.size
      have HLT := Lib.hid ht
      obtain ⟨tb, htb'⟩ : ∃ tb : ByteArray, tb = ⟨t.toArray⟩ := ⟨_, rfl⟩
      have htl : tb.size = t.length := by rw [htb', bsize]
      have hts : tb.size ≤ 140737488351232 := by rw [htl, ht]; exact Z1.out _ (List.getElem_mem _)
      rw [← ht, ← htl] at htot2
      have HTB := Lib.hid htb'
      have HTBL := Lib.hid htl
      rw [← htb'] at hc HCW
      obtain ⟨tk, htk⟩ : ∃ tk, tk = tot (L.take k) := ⟨_, rfl⟩
      rw [← htk] at htot htot2 ⊢
      have HTK := Lib.hid htot2
      clear htb' htl ht hcw hW htk htot2
      by_cases hb : no k = true
      · have hb2 : (bits BinOp.and .i64 (no' / 2 ^ (k % 20)) 1 == 1) = true := by rw [HNO.out] at hb; exact hb
        obtain ⟨R1, R2⟩ := row_no hltL hb
        have HR1 := Lib.hid R1; have HR2 := Lib.hid R2
        have HB := Lib.hid hb
        clear hb R1 R2
        have c2 := HM.out.c2
        have f2 := HM.out.fr 2
        go_wp2_with (at_builtin; refine wpList_append_own_wide _ rfl (.tmp 49) (.tmp 50) 26 rfl w1.heap.size 3 ii (.int .i64 0) 1 8 Tryd.underlying26 hi y0 y1 y2 rfl (by decide) (.slice na nl nc) nl (ncells N) rfl (by have := (HM.out.alloc (.cells #[.int .i64 (-1)] 3)).nums; rw [HNL.out] at this; exact this) ⟨wr.heap.size, 0, none⟩ 1 1 [.int .i64 (-1)] rfl rfl ?c1 ?c2 ?c3 ?c4 ?c5 ?_)
        case c1 => intro j u h; rw [add_plain, Nat.zero_add, ← h]; exact (World.cell?_alloc_new wr _ _ j).trans (by simp)
        case c2 => intro u hu; simp at hu; rcases hu with rfl; rfl
        case c3 => unfold maxLen; omega
        case c4 => omega
        case c5 => simp; omega
        intro v' w5 hO5 hg5 _
        obtain ⟨a', c', rfl⟩ := ownsRow_form hO5
        obtain ⟨h5, hM5⟩ := (HM.out.alloc (.cells #[.int .i64 (-1)] 3)).grewN (N' := N ++ [-1]) hg5 (by rw [ncells_append, List.length_append, HNL.out]; exact hO5)
        have e2 : w5.cell? ⟨w1.heap.size + 1, 2, none⟩ = some (.slice na nl nc) := by simp [World.cell?, h5]
        have g2 : w5.frozen? ⟨w1.heap.size + 1, 2, none⟩ = false := by simp [World.frozen?, h5]
        have HM5 := Lib.hid hM5
        clear h5 hM5 hg5 hO5 c2 f2
        go_wp2_with fail
        go_roundw
        case rel =>
          have e := HTK.out
          have hll := HTL.out; have hln := HNL.out
          refine ⟨k + 1, _, _, tl, nl + 1, ta, a', tc, c', hlt, by go_num, ?_, ?_, ?_, ?_, ?_, HM5.out⟩
          · rw [e]; congr 1; omega
          · rw [HR1.out]; exact HT.out
          · rw [HR2.out, HN.out]; rfl
          · exact hll
          · rw [List.length_append, hln]; rfl
        case measure => simp [RowKit.intOf]; omega
      · have hbf : no k = false := by simpa using hb
        have hb2 : (bits BinOp.and .i64 (no' / 2 ^ (k % 20)) 1 == 1) = false := by rw [HNO.out] at hbf; exact hbf
        obtain ⟨R1, R2⟩ := row_yes hltL hbf
        have HR1 := Lib.hid R1; have HR2 := Lib.hid R2
        clear hb hbf R1 R2
        have c2 := HM.out.c2
        have f2 := HM.out.fr 2
        go_upto_region 12 with (fail)
        go_region_law (refine step_append_own rfl (.tmp 54) (.tmp 60) 26 rfl w1.heap.size 3 ii (.int .i64 0) 1 8 Tryd.underlying26 hi y0 y1 y2 rfl (by decide) (.slice na nl nc) nl (ncells N) (by simp [Act.eval]) (by have := (HM.out.drew.alloc (.cells #[.int .i64 tb.size] 3)).nums; rw [HNL.out] at this; exact this) ⟨wr.heap.size, 0, none⟩ 1 1 [.int .i64 tb.size] (by simp [Act.eval]) rfl ?c1 ?c2 ?c3 ?c4 ?c5 ?_; (case c1 => (intro j u h; rw [add_plain, Nat.zero_add, ← h]; exact (World.cell?_alloc_new wr.drew _ _ j).trans (by simp))); (case c2 => (intro u hu; simp at hu; rcases hu with rfl; rfl)); (case c3 => (unfold maxLen; omega)); (case c4 => omega); (case c5 => (first | omega | (simp; omega))); intro v' w5 hO5 hg5; obtain ⟨a', c', rfl⟩ := ownsRow_form hO5; obtain ⟨h5, hM5⟩ := (HM.out.drew.alloc (.cells #[.int .i64 tb.size] 3)).grewN (N' := N ++ [(tb.size : Int)]) hg5 (by rw [ncells_append, List.length_append, HNL.out]; exact hO5); have e2 : w5.cell? ⟨w1.heap.size + 1, 2, none⟩ = some (.slice na nl nc) := (by simp [World.cell?, h5]); have g2 : w5.frozen? ⟨w1.heap.size + 1, 2, none⟩ = false := (by simp [World.frozen?, h5]); have HM5 := Lib.hid hM5; clear h5 hM5 hg5 hO5)
        all_goals
          clear c2 f2 e2 g2
          go_upto_region 13 with (fail)
          obtain ⟨w6, hw6⟩ : ∃ x, x = w5.setCell ⟨w1.heap.size + 1, 2, none⟩ (.slice a' (nl + 1) c') := ⟨_, rfl⟩
          rw [← hw6] at HM5 ⊢
          clear hw6 hc
          have c1 := HM5.out.c1
          have f1 := HM5.out.fr 1
          have hc6 := HCW.out w6 HM5.out.below
          have hz6 := HM5.out.lt
          have hgw6 : g < w6.heap.size := Nat.lt_of_lt_of_le hg (B1.out.step HM5.out.below B1.out.size).size
          go_region_law (refine step_append_own rfl (.tmp 64) (.tmp 69) 25 rfl w1.heap.size 9 is' (.string { data := #[] }) 1 16 Tryd.underlying25 hi' z0 z1 z2 rfl (by decide) (.slice ta tl tc) tl (tcells T) (by simp [Act.eval]) (by have := (HM5.out.drew.alloc (.cells #[.string tb] 9)).texts; rw [HTL.out] at this; exact this) ⟨w6.heap.size, 0, none⟩ 1 1 [.string tb] (by simp [Act.eval]) rfl ?c1 ?c2 ?c3 ?c4 ?c5 ?_; (case c1 => (intro j u h; rw [add_plain, Nat.zero_add, ← h]; exact (World.cell?_alloc_new w6.drew _ _ j).trans (by simp))); (case c2 => (intro u hu; simp at hu; rcases hu with rfl; rfl)); (case c3 => (unfold maxLen; omega)); (case c4 => omega); (case c5 => (first | omega | (simp; omega))); intro v' w7 hO7 hg7; obtain ⟨a7, c7, rfl⟩ := ownsRow_form hO7; obtain ⟨h7, hM7⟩ := (HM5.out.drew.alloc (.cells #[.string tb] 9)).grewT (T' := T ++ [t]) hg7 (by rw [tcells_append, List.length_append, HTL.out]; rw [HTB.out] at hO7; exact hO7); have e1 : w7.cell? ⟨w1.heap.size + 1, 1, none⟩ = some (.slice ta tl tc) := (by simp [World.cell?, h7]); have g1 : w7.frozen? ⟨w1.heap.size + 1, 1, none⟩ = false := (by simp [World.frozen?, h7]); have HM7 := Lib.hid hM7; clear h7 hM7 hg7 hO7)
          all_goals
            go_wp2_with fail
            go_roundw
            case rel =>
              have e := HTK.out
              have hll := HTL.out; have hln := HNL.out
              refine ⟨k + 1, _, _, tl + 1, nl + 1, a7, a', c7, c', hlt, by go_num, ?_, ?_, ?_, ?_, ?_, HM7.out⟩
              · rw [e]; congr 1; omega
              · rw [HR1.out, HT.out, HLT.out]
              · rw [HR2.out, HN.out, HTBL.out, HLT.out]; rfl
              · rw [List.length_append, hll]; rfl
              · rw [List.length_append, hln]; rfl
            case measure => simp [RowKit.intOf]; omega
    · obtain rfl : k = n1 := by omega
      have hall : L.take k = L := List.take_of_length_le (by rw [HN1.out]; exact Nat.le_refl _)
      rw [hall] at HT HN htot ⊢
      clear hall hlt
      have PR := Lib.hid (B1.out.step HM.out.below B1.out.size)
      by_cases hneg : (3000 - 4 * (k : Int) - tot L) < 0
      · go_wp2_with fail
        go_ret
        exact ⟨rfl, PR.out⟩
      have hpos : 0 ≤ 3000 - 4 * (k : Int) - tot L := by omega
      have c0 := HM.out.c0; have c1 := HM.out.c1; have c2 := HM.out.c2
      have hroom : room ⟨T, N, []⟩ ≤ 800000 := by
        have := tot_vT no L 0
        rw [room_tot, HTL.out, HNL.out, HT.out]; omega
      have HE := encode_any wr true 68 T N _ _ (own_textsIn HM.out.texts) (own_numsIn HM.out.nums) hroom
      rw [show (((68 : UInt8).toNat : Nat) : Int) = 68 from rfl] at HE
      have HE := Lib.hid HE
      clear hneg hroom
      by_cases h100 : (k : Int) ≤ 100
      · obtain ⟨B, hB, hBl⟩ := written_D no L (fun t ht => by have := tot_mem ht; omega) (by rw [HN1.out]; omega)
        rw [HN1.out] at hB hBl
        rw [← HT.out, ← HN.out] at hB
        rw [← HT.out] at hBl
        have htT : tot T ≤ tot L := by rw [HT.out]; exact tot_vT no L 0
        have hB10 : B.length ≤ 10000 := by omega
        have HB := Lib.hid hB
        rw [hB, row_encV_ok 68 B hB10] at HE
        have HD := Lib.hid (fun W => decode_any W true 68 B (by omega))
        rw [show readD true 68 B = some (T, N) from by unfold readD; rw [if_neg (by omega)]; exact read_of_written hB] at HD
        rw [show (((68 : UInt8).toNat : Nat) : Int) = 68 from rfl] at HE HD
        obtain ⟨yb, hyb⟩ : ∃ yb : ByteArray, yb = ⟨B.toArray⟩ := ⟨_, rfl⟩
        have hys : yb.size = 2 + 4 * k + tot T := by rw [hyb, bsize]; exact hBl
        rw [← hyb] at HE HD
        clear hB hBl hyb
        go_wp2_with fail
        refine HE.out.mono ?_; rintro e w3 ⟨rfl, hb⟩
        have B3 := Lib.hid hb
        clear hb c0 c1 c2
        go_wp2_with fail
        refine (HD.out _).mono ?_; rintro e w5 ⟨tv5, nv5, rfl, hT5, hN5, hb⟩
        have hT5' := own_textsIn hT5
        have hN5' := own_numsIn hN5
        obtain ⟨ta5, tc5, rfl⟩ := ownsRow_form hT5
        obtain ⟨na5, nc5, rfl⟩ := ownsRow_form hN5
        have hb : Below (w3.alloc (.cells #[.int .u8 68, .string yb] 23)).heap.size (w3.alloc (.cells #[.int .u8 68, .string yb] 23)) w5 := hb
        have B4 := B3.out.alloc B3.out.size (.cells #[.int .u8 68, .string yb] 23)
        have F5 : w5.cell? ⟨w3.heap.size, 1, none⟩ = some (.string yb) := (hb.cell (p := ⟨w3.heap.size, 1, none⟩) (by simp)).trans (World.cell?_alloc_new _ _ _ _)
        have z5 : w3.heap.size < w5.heap.size := Nat.lt_of_lt_of_le (by simp) hb.size
        have B5 := B4.step hb B4.size
        obtain ⟨w6, hw6⟩ : ∃ x, x = w5.alloc (.cells #[.int .u8 68, .slice ta5 T.length tc5, .slice na5 N.length nc5] 28) := ⟨_, rfl⟩
        have hx : Below w5.heap.size w5 w6 := by rw [hw6]; exact (Below.refl _ _).alloc (Nat.le_refl _) _
        have C6 := Lib.hid (show (w6.cell? ⟨w5.heap.size, 0, none⟩ = some (.int .u8 68) ∧ w6.cell? ⟨w5.heap.size, 1, none⟩ = some (.slice ta5 T.length tc5) ∧ w6.cell? ⟨w5.heap.size, 2, none⟩ = some (.slice na5 N.length nc5)) ∧ w6.cell? ⟨w3.heap.size, 1, none⟩ = some (.string yb) from by
          rw [hw6]
          exact ⟨⟨World.cell?_alloc_new _ _ _ _, World.cell?_alloc_new _ _ _ _, World.cell?_alloc_new _ _ _ _⟩, by rw [← F5]; exact World.cell?_alloc_old _ _ _ (Nat.ne_of_lt z5)⟩)
        have z6 : w5.heap.size < w6.heap.size := by rw [hw6]; simp
        have TX := Lib.hid (hT5'.mono hx)
        have NX := Lib.hid (hN5'.mono hx)
        have B6 := Lib.hid (B5.step hx B5.size)
        have hgl := HM.out.lt
        have M6 := Lib.hid (HM.out.grow B6.out)
        have HW6 := Lib.hid hw6
        clear hT5 hN5 hT5' hN5' hb B4 B5 F5 hx hw6
        go_wp2_with fail
        rw [← HW6.out]
        have c1 := M6.out.c1
        have t6 : TextsIn w6 (.slice ta tl tc) T := by have := own_textsIn M6.out.texts; exact this
        have TC : Hid (∀ (j : Nat) (t : Bs), T[j]? = some t → ∃ g off, ta = some ⟨g, off, none⟩ ∧ w6.cell? ⟨g, off + j, none⟩ = some (.string ⟨t.toArray⟩)) := by
          obtain ⟨_, _, _, e, _, _, _, h⟩ := t6
          injection e with e1 _ _
          subst e1
          refine Lib.hid fun j t hj => ?_
          rcases h with h | ⟨g, off, h1, _, h3⟩
          · rw [h] at hj; cases hj
          · exact ⟨g, off, h1, h3 j t hj⟩
        have hTL := HTL.out
        have hTT : tot T ≤ 3000 := by omega
        clear t6
        go_loop [13, 14] (fun s i => ∃ j : Nat, j ≤ tl ∧ i = .int .i64 j ∧ s = .int .i64 (2 + tot (T.take j))) (fun _ i => tl - (RowKit.intOf i).toNat)
        case atStart => exact ⟨0, Nat.zero_le _, rfl, rfl⟩
        case round =>
          obtain ⟨j, hj, rfl, rfl⟩ := hrel
          have hjt := tot_take T j
          by_cases hlt : j < tl
          · have hjT : j < T.length := by omega
            obtain ⟨g, off, e, hc⟩ := TC.out j T[j] (List.getElem?_eq_getElem hjT)
            have hs := tot_snoc hjT
            have hle := tot_take T (j + 1)
            obtain ⟨tb, htb⟩ : ∃ tb : ByteArray, tb = ⟨T[j].toArray⟩ := ⟨_, rfl⟩
            have hbs : tb.size = T[j].length := by rw [htb, bsize]
            rw [← htb] at hc
            rw [← hbs] at hs
            subst e
            have HS := Lib.hid hs
            obtain ⟨tj, htj⟩ : ∃ tj, tj = tot (T.take j) := ⟨_, rfl⟩
            rw [← htj] at hjt HS ⊢
            have hb1 : tb.size ≤ 3000 := by rw [hs] at hle; omega
            clear hs htb hbs hle htj
            go_wp2
            go_round
            case rel => exact ⟨j + 1, hlt, by go_num, by rw [HS.out]; congr 1; omega⟩
            case measure => simp [RowKit.intOf]; omega
          · obtain rfl : tl = j := by omega
            rw [List.take_of_length_le (by omega)] at hjt ⊢
            obtain ⟨tT, htT'⟩ : ∃ tT, tT = tot T := ⟨_, rfl⟩
            rw [← htT'] at hjt hys hTT ⊢
            clear hlt htT htT' hTL
            have HSS := Lib.hid (show ∀ W, Below w6.heap.size w6 W → ((W.cell? ⟨w5.heap.size, 0, none⟩ = some (.int .u8 68) ∧ W.cell? ⟨w5.heap.size, 1, none⟩ = some (.slice ta5 T.length tc5) ∧ W.cell? ⟨w5.heap.size, 2, none⟩ = some (.slice na5 N.length nc5)) ∧ (W.cell? ⟨w1.heap.size + 1, 0, none⟩ = some (.int .u8 68) ∧ W.cell? ⟨w1.heap.size + 1, 1, none⟩ = some (.slice ta tl tc) ∧ W.cell? ⟨w1.heap.size + 1, 2, none⟩ = some (.slice na nl nc)) ∧ W.cell? ⟨w3.heap.size, 1, none⟩ = some (.string yb)) ∧ Below w6.heap.size w6 W from by
              intro W hW
              have M := M6.out.grow hW
              have k' : ∀ q i, q < w6.heap.size → W.cell? ⟨q, i, none⟩ = w6.cell? ⟨q, i, none⟩ := fun q i h => hW.cell (p := ⟨q, i, none⟩) h
              exact ⟨⟨⟨(k' _ _ z6).trans C6.out.1.1, (k' _ _ z6).trans C6.out.1.2.1, (k' _ _ z6).trans C6.out.1.2.2⟩, ⟨M.c0, M.c1, M.c2⟩, (k' _ _ (Nat.lt_trans z5 z6)).trans C6.out.2⟩, hW⟩)
            have HSA := Lib.hid (show ∀ W, Below w6.heap.size w6 W → Calls Tryd.prog 12 #[.agg #[.int .u8 68, .slice ta5 T.length tc5, .slice na5 N.length nc5], .agg #[.int .u8 68, .slice ta tl tc, .slice na nl nc]] W fun e w' => e = .returned (.bool true) ∧ Below W.heap.size W w' from fun W hW => by
              have M := M6.out.grow hW
              have := same_any W 68 68 T T N N _ _ _ _ (TX.out.mono hW) (NX.out.mono hW) (own_textsIn M.texts) (own_numsIn M.nums)
              rw [show sameB 68 T N 68 T N = true from decide_eq_true ⟨rfl, rfl, rfl⟩] at this
              exact this)
            have HSTEP := Lib.hid (show ∀ W W', Below w6.heap.size w6 W → Below W.heap.size W W' → ((W'.cell? ⟨w5.heap.size, 0, none⟩ = some (.int .u8 68) ∧ W'.cell? ⟨w5.heap.size, 1, none⟩ = some (.slice ta5 T.length tc5) ∧ W'.cell? ⟨w5.heap.size, 2, none⟩ = some (.slice na5 N.length nc5)) ∧ (W'.cell? ⟨w1.heap.size + 1, 0, none⟩ = some (.int .u8 68) ∧ W'.cell? ⟨w1.heap.size + 1, 1, none⟩ = some (.slice ta tl tc) ∧ W'.cell? ⟨w1.heap.size + 1, 2, none⟩ = some (.slice na nl nc)) ∧ W'.cell? ⟨w3.heap.size, 1, none⟩ = some (.string yb)) ∧ Below w6.heap.size w6 W' from fun W W' h hb => HSS.out W' (h.step hb h.size))
            have S0 := HSS.out w6 (Below.refl _ _)
            have q1 : IntKind.i64.wrap (4 * (k : Int)) = 4 * k := IntWalk.i64_in _ (by omega)
            have q2 : IntKind.i64.wrap (2 + (tT : Int) + 4 * k) = 2 + tT + 4 * k := IntWalk.i64_in _ (by omega)
            have q3 : ((yb.size : Int) == 2 + tT + 4 * k) = true := by rw [beq_iff_eq]; omega
            clear hys
            go_upto_region 27 with (fail)
            go_region_held3 (fun W => ((W.cell? ⟨w5.heap.size, 0, none⟩ = some (.int .u8 68) ∧ W.cell? ⟨w5.heap.size, 1, none⟩ = some (.slice ta5 T.length tc5) ∧ W.cell? ⟨w5.heap.size, 2, none⟩ = some (.slice na5 N.length nc5)) ∧ (W.cell? ⟨w1.heap.size + 1, 0, none⟩ = some (.int .u8 68) ∧ W.cell? ⟨w1.heap.size + 1, 1, none⟩ = some (.slice ta tl tc) ∧ W.cell? ⟨w1.heap.size + 1, 2, none⟩ = some (.slice na nl nc)) ∧ W.cell? ⟨w3.heap.size, 1, none⟩ = some (.string yb)) ∧ Below w6.heap.size w6 W) (first | exact S3 | exact S2 | exact S1 | exact ⟨S0.1, S0.2.drew⟩)
              (first | (go_at_call 13; refine (as_any _ _ _ _ _ _ _ _).mono ?_; rintro e w8 ⟨rfl, hb8⟩; have S1 := HSTEP.out w6.drew w8 S0.2.drew hb8) | (go_at_call 13; refine (as_any _ _ _ _ _ _ _ _).mono ?_; rintro e w9 ⟨rfl, hb9⟩; have S2 := HSTEP.out _ w9 S1.2 hb9) | (go_at_call 12; refine (HSA.out _ S2.2).mono ?_; rintro e wx ⟨rfl, hbx⟩; have S3 := HSTEP.out _ wx S2.2 hbx))
            all_goals
              clear q1 q2 q3
              go_wp2_with fail
              go_ret
              exact ⟨rfl, PR.out.step (B6.out.step S3.2 B6.out.size) PR.out.size⟩
      · have hE : written true 68 T N = none := by rw [HN.out]; exact written_Dno _ _ _ (by omega)
        rw [hE, row_encV_no] at HE
        clear hE
        go_wp2_with fail
        refine HE.out.mono ?_; rintro e w3 ⟨rfl, hb⟩
        have B3 := Lib.hid hb
        clear hb c0 c1 c2
        go_wp2_with fail
        go_ret
        exact ⟨rfl, PR.out.step (B3.out.alloc B3.out.size _) PR.out.size⟩
set_option maxRecDepth 100000 in
theorem rows_lifted (os : Os) (started : os.Started) (H : Type) (enc : TypeId × Value → H) :
    ReturnsInHanded {} Tryd.checked os 7 .any (fun w args => (Rows.msgRowsSpec.pre enc Tryd.prog Tryd.f7 Rows.msgRowsRow.domain false w args ∧ laidMetH Tryd.prog [("unicode/utf8.acceptRanges", Rows.laid_unicode_utf8_acceptRanges), ("unicode/utf8.first", Rows.laid_unicode_utf8_first)] w) ∧ sizedMet enc Tryd.prog Tryd.f7 (OpenSpec.ofChange Rows.msgRowsSpec) false w args) (Rows.msgRowsSpec.post enc Tryd.prog Tryd.f7 false true false false) := by
  refine handed_laid (C := Tryd.checked) (X := fun w _ => laidMetH Tryd.prog [("unicode/utf8.acceptRanges", Rows.laid_unicode_utf8_acceptRanges), ("unicode/utf8.first", Rows.laid_unicode_utf8_first)] w) (fun _ _ _ hh h => h.of_heap hh) own started (by kernel_rfl) Tryd.func7
    (ChangeSpec.witness_shaped (enc := enc) (C := Tryd.checked) (os := os) (X := fun w _ => laidMetH Tryd.prog [("unicode/utf8.acceptRanges", Rows.laid_unicode_utf8_acceptRanges), ("unicode/utf8.first", Rows.laid_unicode_utf8_first)] w) false (World.laidAll Tryd.prog os [("unicode/utf8.acceptRanges", Rows.laid_unicode_utf8_acceptRanges), ("unicode/utf8.first", Rows.laid_unicode_utf8_first)]) #[.slice none 0 0, .int .i64 0] 8 (World.laidAll_os _ _ _) (World.shaped_of_ZipB (by kernel_rfl) (by kernel_rfl)) (by kernel_rfl) (by kernel_rfl) (by kernel_rfl)
      (by rw [MakeChecks.laidMetH_plain _ _ _ (by kernel_rfl)]; exact laidMet_laidAll _ (by kernel_rfl) (by kernel_rfl))) ?_
  intro W base args ds gs before hval0 hW hsz0 _ _
  have hsz : (DataW.weightsEach Tryd.prog (Tryd.f7.params.toList ++ Rows.msgRowsSpec.plain.varTypes Tryd.prog) (ds ++ gs)).all (· ≤ reachBytes) = true := hsz0
  clear hsz0
  have hval : ∀ (j : Nat) t v, Tryd.f7.params[j]? = some t → args[j]? = some v → Value.okWide Tryd.prog W .any base t v := hval0
  have hW' := hW
  obtain ⟨p, q, hA0, hV, rfl, _, _⟩ := hW
  have hA : DataW.TrodAll enc Tryd.prog W 0 (fun _ => true) true Tryd.f7.params.toList args.toList ds p := hA0
  rw [Tryd.params7] at hA hval hsz
  obtain ⟨v0, v1, d0, d1, p0, p1, rfl, rfl, rfl, h0, h1⟩ := trodAll_two hA
  obtain ⟨rfl, rfl⟩ := trodVars_none hV
  obtain ⟨a0, len0, cap0, rfl⟩ := okWide_slice Tryd.underlying25 (hval 0 25 v0 rfl rfl)
  obtain ⟨fuel0, hf0⟩ := h0
  obtain ⟨L, hT1, hw1⟩ := open_textsIn (by simpa [Value.cells] using hf0)
  have hz1 : ∀ t ∈ L, t.length ≤ 140737488351232 := fun t ht => of_decide_eq_true (List.all_eq_true.1 hsz _ (DataW.weights_mem_each (j := 0) (t := 25) rfl rfl _ (hw1 t ht)))
  obtain ⟨no', rfl, rfl, rfl, wf_no'⟩ := open_int Tryd.underlying3 (hval 1 3 v1 rfl rfl) h1
  have h_no' := int_range wf_no'
  refine (rows_walk W L _ no' h_no' hT1 hz1).mono fun e W' ⟨he, hb⟩ => ?_
  subst he
  exact ⟨_, rfl, law_shut laidOut (by kernel_rfl) (by kernel_rfl) Tryd.underlying4 rfl hW' rfl hb⟩

theorem rows_holds : Rows.MsgRowsSaid :=
  OpenClaim.holds_of_wide 7 Tryd.f7 rfl rfl rfl rfl rfl rfl rfl ⟨rfl, rfl, rfl, rfl, rfl⟩ rfl rfl rfl rfl rfl (by kernel_rfl) Tryd.func7 (by kernel_rfl)
    (of_decide_eq_true (by kernel_rfl)) (by unfold Func.isWrapper; rw [if_neg (of_decide_eq_false (by kernel_rfl))]; exact ⟨rfl, rfl⟩)
    (fun os started H enc _ => rows_lifted os started H enc)

theorem rows_card : Rows.MsgRowsCardSaid :=
  Claim7.holds_tied_plain_at .later [] [.data, .pinned] true _ false rows_holds (fun _ h => by cases h) (by kernel_rfl) (fun _ h => by cases h) msgRows_row_tie rfl ⟨rfl, rfl⟩ (by kernel_rfl) rfl
    (fun f fn hf hfn => by
      obtain rfl : f = 7 := Option.some.inj ((show Tryd.prog.funcNamed "taxirank/taxiranklaw2.MsgRows" = some 7 by kernel_rfl).symm.trans hf) |>.symm
      obtain rfl : fn = Tryd.f7 := (Option.some.inj (Tryd.func7.symm.trans hfn)).symm
      exact ⟨by kernel_rfl, fun j t ht => by
        rw [Tryd.params7] at ht
        have hm : t ∈ [25, 3] := by simpa using Array.mem_of_getElem? ht
        have hall : ([25, 3].all fun u => !Tryd.prog.wantsStandIn u) = true := by kernel_rfl
        exact (show Tryd.prog.wantsStandIn t = false by simpa using List.all_eq_true.1 hall t hm)⟩)
    (by kernel_rfl)
end Go.Proofs.YtfdffiphlpeegaaDoor
