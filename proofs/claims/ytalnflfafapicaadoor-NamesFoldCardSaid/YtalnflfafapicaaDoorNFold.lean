/- A name is taken whatever letters it is written with: NamesFold answers true, whatever two texts and integer it is called with, and leaves what was there as it was. (Over the listed variables, tied to the program's text.) -/
import Derived.Test.YtalnflfafapicaaDoorNCard
import Derived.Test.YtalnflfafapicaaDoorNTake
namespace Go.Proofs.YtalnflfafapicaaDoor
open Go.RowKit Go.Lib Go.WideShapes Go.ChangeShapes Go.ChangeAt Go.Joins

theorem info_token : (Tryd.prog.info? 25).map (fun i => (i.zero, i.size, i.bytes)) = some (some (.agg #[.int .u8 0, .string { data := #[] }, .int .i64 0, .int .i64 0]), 4, 40) := by kernel_rfl

theorem tokC_length (l : List Tok) : (tokC l).length = l.length * 4 := by
  induction l with
  | nil => rfl
  | cons t l ih => show (tokC l).length + 4 = _; rw [ih, List.length_cons]; omega

theorem own_tokoff {w : World} {B n c : Nat} {p : Option Addr} {l : List Tok} (h : w.ownsRow B 25 4 (.slice p n c) n (tokC l)) (hl : l.length = n) : TokOff w p l := by
  by_cases h0 : 0 < n
  · have h' : w.ownsRow B 25 4 (.slice p n c) l.length (tokC l) := by rw [hl]; exact h
    obtain ⟨g, cap, hv, _, _, _, hg, hc⟩ := tok_cells h' (by omega)
    simp only [Value.slice.injEq] at hv
    obtain ⟨rfl, _, _⟩ := hv
    exact TokAt.off fun i q hq => by
      obtain ⟨h0, h1, h2, h3⟩ := tokC_at l i q hq
      exact ⟨g, rfl, hg, hc _ _ h0, hc _ _ h1, hc _ _ h2, hc _ _ h3⟩
  · exact .inl (List.length_eq_zero_iff.1 (by omega))

/-- The tokens of NamesFold. -/
def foldRow (a b : Bs) (k : Nat) : List Tok := [⟨119, a, 0, 0⟩, ⟨111, [46], 0, 0⟩, ⟨113, b, 0, 0⟩] ++ List.replicate k ⟨119, [122], 0, 0⟩
theorem foldRow_length (a b : Bs) (k : Nat) : (foldRow a b k).length = 3 + k := by simp [foldRow]; omega
theorem foldRow_snoc (a b : Bs) (k : Nat) : foldRow a b (k + 1) = foldRow a b k ++ [⟨119, [122], 0, 0⟩] := by
  unfold foldRow
  rw [List.replicate_succ', List.append_assoc]
theorem foldRow_take (a b : Bs) (k : Nat) : (foldRow a b k).take 2 = [⟨119, a, 0, 0⟩, ⟨111, [46], 0, 0⟩] := rfl
theorem take_row (a b : Bs) (k : Nat) : takeB (foldRow a b k) = if goodB (foldB a ++ 46 :: foldB b) then (foldB a ++ 46 :: foldB b, 3) else ([], 0) :=
  takeB_yes (t := ⟨119, a, 0, 0⟩) rfl (takes_long (t := ⟨119, a, 0, 0⟩) (u := ⟨111, [46], 0, 0⟩) (v := ⟨113, b, 0, 0⟩) (r := List.replicate k ⟨119, [122], 0, 0⟩) rfl rfl rfl)
theorem take_two (a : Bs) : takeB [⟨119, a, 0, 0⟩, ⟨111, [46], 0, 0⟩] = if goodB (foldB a) then (foldB a, 1) else ([], 0) :=
  takeB_yes (t := ⟨119, a, 0, 0⟩) rfl rfl
theorem good_some {l : Bs} (h : goodB l = true) : l ≠ [] := fun e => by subst e; exact absurd h (by decide)
theorem foldRow_texts {a b : Bs} (ha : a.length ≤ 1000) (hb : b.length ≤ 1000) (k : Nat) : ∀ q ∈ foldRow a b k, q.text.length ≤ 2000 := by
  intro q hq
  unfold foldRow at hq
  rcases List.mem_append.1 hq with h | h
  · simp at h
    rcases h with rfl | rfl | rfl
    · show a.length ≤ 2000; omega
    · show 1 ≤ 2000; omega
    · show b.length ≤ 2000; omega
  · rw [List.eq_of_mem_replicate h]; show 1 ≤ 2000; omega
theorem fold_ba (S : ByteArray) (w : World) (hs : S.size ≤ 2000) :
    Calls Tryd.prog 20 #[.string S] w fun e w' => e = .returned (.string ⟨(foldB (bytes S)).toArray⟩) ∧ Below w.heap.size w w' := fold_bs (bytes S) w (by rw [bytes_len]; exact hs)
theorem cat3 (x y : Bs) : (⟨(x ++ 46 :: y).toArray⟩ : ByteArray) = ⟨x.toArray⟩ ++ { data := #[46] } ++ ⟨y.toArray⟩ := by
  rw [show ({ data := #[46] } : ByteArray) = ⟨[46].toArray⟩ from rfl, str_cat, str_cat]; simp
theorem nb_cat (a b : ByteArray) : bytes (a ++ b) = bytes a ++ bytes b := by simp [bytes]

set_option maxRecDepth 100000 in
set_option maxHeartbeats 8000000 in
theorem fold_ok (a b : ByteArray) (more m : Int) (w : World) (ha : a.size ≤ 140737488351232) (hb : b.size ≤ 140737488351232) (hmo : -9223372036854775808 ≤ more ∧ more ≤ 9223372036854775807) (hm : w.cell? ⟨1, 0, none⟩ = some (.int .i64 m)) (hT : TakenAt w) :
    Calls Tryd.prog 5 #[.string a, .string b, .int .i64 more] w fun e w' => e = .returned (.bool true) ∧ Below w.heap.size w w' := by
  obtain ⟨i0, hi, y0, y1, y2⟩ := info_parts info_token
  have HM := Lib.hid hm
  have HW0 := Lib.hid (World.block_lt_of_cell? w ⟨1, 0, none⟩ hm)
  have HSH := Lib.hid (shown7_true m w hm hT)
  have HG := Lib.hid (fun (S : ByteArray) (W : World) h1 h2 => good_any S m W h1 h2)
  have HK := Lib.hid (fun p T n c W h1 h2 h3 h4 h5 => take_any p T n c m W h1 h2 h3 h4 h5)
  have HF := Lib.hid (fun (S : ByteArray) (W : World) h1 => fold_ba S W h1)
  clear hm hT
  by_cases hl : (a.size : Int) + b.size ≤ 100
  · go_enter Tryd.func5, Tryd.ntmps5
    go_wp2_with fail
    refine HSH.out.mono ?_; rintro e w1 ⟨rfl, hb1⟩
    have HB1 := Lib.hid hb1
    clear hb1 HSH
    go_wp2_with fail
    have hz1 := HB1.out.size
    have hO0 : (w1.alloc (Obj.cells #[.int .u8 119, .string a, .int .i64 0, .int .i64 0, .int .u8 111, .string { data := #[46] }, .int .i64 0, .int .i64 0, .int .u8 113, .string b, .int .i64 0, .int .i64 0] 25)).ownsRow w1.heap.size 25 4 (.slice (some ⟨w1.heap.size, 0, none⟩) 3 3) 3 (tokC (foldRow (bytes a) (bytes b) 0)) := World.ownsRow_lit w1 _ 3 (Nat.le_refl _) (by decide) rfl
    have hB0 : Below w1.heap.size w1 (w1.alloc (Obj.cells #[.int .u8 119, .string a, .int .i64 0, .int .i64 0, .int .u8 111, .string { data := #[46] }, .int .i64 0, .int .i64 0, .int .u8 113, .string b, .int .i64 0, .int .i64 0] 25)) := (Below.refl _ w1).alloc (Nat.le_refl _) _
    have HO0 := Lib.hid hO0; have HB0 := Lib.hid hB0
    clear hO0 hB0
    generalize w1.alloc (Obj.cells #[.int .u8 119, .string a, .int .i64 0, .int .i64 0, .int .u8 111, .string { data := #[46] }, .int .i64 0, .int .i64 0, .int .u8 113, .string b, .int .i64 0, .int .i64 0] 25) = w2 at HO0 HB0 ⊢
    go_loopw [8, 9] (fun v i wr => ∃ k : Nat, k ≤ 5 ∧ i = .int .i64 k ∧ Below w1.heap.size w1 wr ∧ wr.ownsRow w1.heap.size 25 4 v (3 + k) (tokC (foldRow (bytes a) (bytes b) k))) (fun _ i _ => 5 - (RowKit.intOf i).toNat)
    case atStart => exact ⟨0, by omega, rfl, HB0.out, HO0.out⟩
    case round =>
      obtain ⟨k, hk, rfl, hBB, hOO⟩ := hrel
      have HBB := Lib.hid hBB; have HOO := Lib.hid hOO
      obtain ⟨va, vc, rfl⟩ := ownsRow_form hOO
      have hz2 := HBB.out.size
      clear hBB hOO HB0 HO0
      have hcase : (k < 5 ∧ (k : Int) < more) ∨ (more ≤ k ∨ 5 ≤ k) := by omega
      rcases hcase with ⟨hk5, hkm⟩ | hex
      · have hk5' : (k : Int) < 5 := by omega
        go_wp2_with (at_builtin; refine wpList_append_at _ rfl (.tmp 42) (.tmp 44) 22 rfl w1.heap.size 25 i0 (.agg #[.int .u8 0, .string { data := #[] }, .int .i64 0, .int .i64 0]) 4 40 Tryd.underlying22 hi y0 y1 y2 rfl (by decide) (.slice va (3 + k) vc) (3 + k) (tokC (foldRow (bytes a) (bytes b) k)) rfl (HOO.out.alloc _) ⟨wr.heap.size, 0, none⟩ 1 1 [.int .u8 119, .string { data := #[122] }, .int .i64 0, .int .i64 0] rfl rfl (fun j u h => by rw [add_plain, Nat.zero_add, ← h]; exact (World.cell?_alloc_new wr _ _ j).trans (by simp)) (by intro u hu; simp at hu; rcases hu with rfl | rfl | rfl | rfl <;> rfl) (by unfold maxLen; omega) (by omega) (by simp; omega) ?_; intro v' w4 hO4 hg4 _; have HO4 := Lib.hid hO4; have HB4 := Lib.hid (show Below w1.heap.size w1 w4 from below_grown (HBB.out.alloc HBB.out.size _) (by simp; omega) hg4 (fun q hq => (HOO.out.lt q hq).1)); clear hO4 hg4)
        go_roundw
        case rel => exact ⟨k + 1, by omega, by go_num, HB4.out, by rw [foldRow_snoc, tokC_snoc]; exact HO4.out⟩
        case measure => simp [RowKit.intOf]; omega
      · have hne : 3 + k ≠ 0 := by omega
        obtain ⟨g, cap, hv, hcap1, hcap2⟩ : ∃ g cap, (Value.slice va (3 + k) vc) = .slice (some ⟨g, 0, none⟩) (3 + k) cap ∧ 3 + k ≤ cap ∧ cap ≤ 9223372036854775807 := by
          rcases HOO.out.2 with ⟨_, h0⟩ | ⟨g, cap, cur, hv, _, _, hn, hc, _⟩
          · exact absurd h0 hne
          · exact ⟨g, cap, hv, hn, by unfold maxLen at hc; omega⟩
        simp only [Value.slice.injEq] at hv
        obtain ⟨rfl, _, rfl⟩ := hv
        have HA := Lib.hid (own_tokoff HOO.out (foldRow_length _ _ _))
        have HB3 := Lib.hid (HB1.out.step HBB.out HB1.out.size)
        have HM3 := Lib.hid ((HB3.out.cell (p := ⟨1, 0, none⟩) HW0.out).trans HM.out)
        have h2c : (2 : Int) ≤ vc := by omega
        obtain ⟨n, hn⟩ : ∃ n, n = 3 + k := ⟨_, rfl⟩
        have hn2 : (2 : Int) ≤ n := by omega
        have hn8 : n ≤ 8 := by omega
        have HFL := Lib.hid (show (foldRow (bytes a) (bytes b) k).length = n by rw [foldRow_length, hn])
        rw [← hn]
        obtain ⟨A, hA⟩ : ∃ A, A = foldB (bytes a) := ⟨_, rfl⟩
        obtain ⟨B, hB⟩ : ∃ B, B = foldB (bytes b) := ⟨_, rfl⟩
        have hAl : A.length ≤ 100 := by rw [hA, foldB_length, bytes_len]; omega
        have hBl : B.length ≤ 100 := by rw [hB, foldB_length, bytes_len]; omega
        have HTR := Lib.hid (take_row (bytes a) (bytes b) k); have HTW := Lib.hid (take_two (bytes a))
        have HFX := Lib.hid (foldRow_texts (a := bytes a) (b := bytes b) (by rw [bytes_len]; omega) (by rw [bytes_len]; omega) k)
        rw [← hA, ← hB] at HTR
        rw [← hA] at HTW
        have HAE := Lib.hid hA; have HBE := Lib.hid hB
        clear hA hB hn
        have hex : more ≤ k ∨ ((k : Int) < more ∧ (5 : Int) ≤ k) := by omega
        rcases hex with hex | ⟨hex, hex2⟩
        · cases g1 : goodB (A ++ 46 :: B) with
          | true =>
            cases g2 : goodB A with
            | true =>
              have HA3 := Lib.hid HA.out
              go_wp2_with fail
              refine (HK.out (some ⟨g, 0, none⟩) (foldRow (bytes a) (bytes b) k) n vc wr HFL.out (by omega) HA3.out HFX.out HM3.out).mono ?_; rintro e w4 ⟨rfl, hb4⟩
              rw [HTR.out, g1, if_pos rfl, show (A ++ 46 :: B, 3).1 = A ++ 46 :: B from rfl, cat3]
              have HB4 := Lib.hid (HB3.out.step hb4 HB3.out.size)
              have HA4 := Lib.hid (HA3.out.step hb4)
              have HM4 := Lib.hid ((HB4.out.cell (p := ⟨1, 0, none⟩) HW0.out).trans HM.out)
              clear hb4 HM3 HB3 HA3
              go_wp2_with fail
              refine (HK.out (some ⟨g, 0, none⟩) [⟨119, bytes a, 0, 0⟩, ⟨111, [46], 0, 0⟩] 2 vc w4 rfl (by omega) (HA4.out.take 2) (fun q hq => HFX.out q (by unfold foldRow; simp at hq; rcases hq with rfl | rfl <;> simp)) HM4.out).mono ?_; rintro e w5 ⟨rfl, hb5⟩
              rw [HTW.out, g2, if_pos rfl]
              have HB5 := Lib.hid (HB4.out.step hb5 HB4.out.size)
              have HA5 := Lib.hid (HA4.out.step hb5)
              have HM5 := Lib.hid ((HB5.out.cell (p := ⟨1, 0, none⟩) HW0.out).trans HM.out)
              clear hb5 HM4 HB4 HA4
              have hX : (⟨A.toArray⟩ : ByteArray).size ≤ 100 := by rw [str_size]; exact hAl
              have hY : (⟨B.toArray⟩ : ByteArray).size ≤ 100 := by rw [str_size]; exact hBl
              generalize hXe : (⟨A.toArray⟩ : ByteArray) = X at hX ⊢
              generalize hYe : (⟨B.toArray⟩ : ByteArray) = Y at hY ⊢
              have HXE := Lib.hid hXe; have HYE := Lib.hid hYe
              clear hXe hYe
              go_wp2_with fail
              refine (HF.out a w5 (by omega)).mono ?_; rintro e w6 ⟨rfl, hb6⟩
              rw [show (⟨(foldB (bytes a)).toArray⟩ : ByteArray) = X by rw [← HAE.out, HXE.out]]
              have HB6 := Lib.hid (HB5.out.step hb6 HB5.out.size)
              have HA6 := Lib.hid (HA5.out.step hb6)
              have HM6 := Lib.hid ((HB6.out.cell (p := ⟨1, 0, none⟩) HW0.out).trans HM.out)
              clear hb6 HM5 HB5 HA5
              go_wp2_with fail
              refine (HF.out b w6 (by omega)).mono ?_; rintro e w7 ⟨rfl, hb7⟩
              rw [show (⟨(foldB (bytes b)).toArray⟩ : ByteArray) = Y by rw [← HBE.out, HYE.out]]
              have HB7 := Lib.hid (HB6.out.step hb7 HB6.out.size)
              have HA7 := Lib.hid (HA6.out.step hb7)
              have HM7 := Lib.hid ((HB7.out.cell (p := ⟨1, 0, none⟩) HW0.out).trans HM.out)
              clear hb7 HM6 HB6 HA6
              go_wp2_with fail
              refine (HG.out _ w7 (by simp only [ByteArray.size_append]; show X.size + 1 + Y.size ≤ 100000; omega) HM7.out).mono ?_; rintro e w8 ⟨rfl, hb8⟩
              rw [show goodB (bytes (X ++ { data := #[46] } ++ Y)) = true by rw [nb_cat, nb_cat, ← HXE.out, ← HYE.out, show bytes { data := #[46] } = [46] from rfl, show bytes ⟨A.toArray⟩ ++ [46] ++ bytes ⟨B.toArray⟩ = A ++ 46 :: B by simp [bytes], g1]]
              have HB8 := Lib.hid (HB7.out.step (below_drew hb8) HB7.out.size)
              have HA8 := Lib.hid (HA7.out.step (below_drew hb8))
              have HM8 := Lib.hid ((HB8.out.cell (p := ⟨1, 0, none⟩) HW0.out).trans HM.out)
              clear hb8 HM7 HB7 HA7
              go_wp2_with fail
              refine (HF.out a w8 (by omega)).mono ?_; rintro e w9 ⟨rfl, hb9⟩
              rw [show (⟨(foldB (bytes a)).toArray⟩ : ByteArray) = X by rw [← HAE.out, HXE.out]]
              have HB9 := Lib.hid (HB8.out.step hb9 HB8.out.size)
              have HA9 := Lib.hid (HA8.out.step hb9)
              have HM9 := Lib.hid ((HB9.out.cell (p := ⟨1, 0, none⟩) HW0.out).trans HM.out)
              clear hb9 HM8 HB8 HA8
              go_wp2_with fail
              refine (HG.out X w9 (by omega) HM9.out).mono ?_; rintro e w10 ⟨rfl, hb10⟩
              rw [show goodB (bytes X) = true by rw [← HXE.out, show bytes ⟨A.toArray⟩ = A by simp [bytes], g2]]
              have HB10 := Lib.hid (HB9.out.step (below_drew hb10) HB9.out.size)
              have HA10 := Lib.hid (HA9.out.step (below_drew hb10))
              have HM10 := Lib.hid ((HB10.out.cell (p := ⟨1, 0, none⟩) HW0.out).trans HM.out)
              clear hb10 HM9 HB9 HA9
              go_wp2_with fail
              refine (HF.out a w10 (by omega)).mono ?_; rintro e w11 ⟨rfl, hb11⟩
              rw [show (⟨(foldB (bytes a)).toArray⟩ : ByteArray) = X by rw [← HAE.out, HXE.out]]
              have HB11 := Lib.hid (HB10.out.step hb11 HB10.out.size)
              have HA11 := Lib.hid (HA10.out.step hb11)
              have HM11 := Lib.hid ((HB11.out.cell (p := ⟨1, 0, none⟩) HW0.out).trans HM.out)
              clear hb11 HM10 HB10 HA10
              have hXn : X.toList.isEmpty = false := str_some X (by rw [← HXE.out, str_size]; exact List.length_pos_iff.2 (good_some g2))
              have hWn : (X ++ { data := #[46] } ++ Y : ByteArray).toList.isEmpty = false := str_some _ (by simp only [ByteArray.size_append]; show 0 < X.size + 1 + Y.size; omega)
              go_wp2_with fail
              refine (HG.out _ w11 (by simp only [ByteArray.size_append]; show X.size + 1 + Y.size ≤ 100000; omega) HM11.out).mono ?_; rintro e w12 ⟨rfl, hb12⟩
              rw [show goodB (bytes (X ++ { data := #[46] } ++ Y)) = true by rw [nb_cat, nb_cat, ← HXE.out, ← HYE.out, show bytes { data := #[46] } = [46] from rfl, show bytes ⟨A.toArray⟩ ++ [46] ++ bytes ⟨B.toArray⟩ = A ++ 46 :: B by simp [bytes], g1]]
              have HB12 := Lib.hid (HB11.out.step (below_drew hb12) HB11.out.size)
              have HA12 := Lib.hid (HA11.out.step (below_drew hb12))
              have HM12 := Lib.hid ((HB12.out.cell (p := ⟨1, 0, none⟩) HW0.out).trans HM.out)
              clear hb12 HM11 HB11 HA11
              go_wp2_with fail
              go_ret
              exact ⟨rfl, HB12.out⟩
            | false =>
              have HA3 := Lib.hid HA.out
              go_wp2_with fail
              refine (HK.out (some ⟨g, 0, none⟩) (foldRow (bytes a) (bytes b) k) n vc wr HFL.out (by omega) HA3.out HFX.out HM3.out).mono ?_; rintro e w4 ⟨rfl, hb4⟩
              rw [HTR.out, g1, if_pos rfl, show (A ++ 46 :: B, 3).1 = A ++ 46 :: B from rfl, cat3]
              have HB4 := Lib.hid (HB3.out.step hb4 HB3.out.size)
              have HA4 := Lib.hid (HA3.out.step hb4)
              have HM4 := Lib.hid ((HB4.out.cell (p := ⟨1, 0, none⟩) HW0.out).trans HM.out)
              clear hb4 HM3 HB3 HA3
              go_wp2_with fail
              refine (HK.out (some ⟨g, 0, none⟩) [⟨119, bytes a, 0, 0⟩, ⟨111, [46], 0, 0⟩] 2 vc w4 rfl (by omega) (HA4.out.take 2) (fun q hq => HFX.out q (by unfold foldRow; simp at hq; rcases hq with rfl | rfl <;> simp)) HM4.out).mono ?_; rintro e w5 ⟨rfl, hb5⟩
              rw [HTW.out, g2, if_neg (by simp)]
              have HB5 := Lib.hid (HB4.out.step hb5 HB4.out.size)
              have HA5 := Lib.hid (HA4.out.step hb5)
              have HM5 := Lib.hid ((HB5.out.cell (p := ⟨1, 0, none⟩) HW0.out).trans HM.out)
              clear hb5 HM4 HB4 HA4
              have hX : (⟨A.toArray⟩ : ByteArray).size ≤ 100 := by rw [str_size]; exact hAl
              have hY : (⟨B.toArray⟩ : ByteArray).size ≤ 100 := by rw [str_size]; exact hBl
              generalize hXe : (⟨A.toArray⟩ : ByteArray) = X at hX ⊢
              generalize hYe : (⟨B.toArray⟩ : ByteArray) = Y at hY ⊢
              have HXE := Lib.hid hXe; have HYE := Lib.hid hYe
              clear hXe hYe
              go_wp2_with fail
              refine (HF.out a w5 (by omega)).mono ?_; rintro e w6 ⟨rfl, hb6⟩
              rw [show (⟨(foldB (bytes a)).toArray⟩ : ByteArray) = X by rw [← HAE.out, HXE.out]]
              have HB6 := Lib.hid (HB5.out.step hb6 HB5.out.size)
              have HA6 := Lib.hid (HA5.out.step hb6)
              have HM6 := Lib.hid ((HB6.out.cell (p := ⟨1, 0, none⟩) HW0.out).trans HM.out)
              clear hb6 HM5 HB5 HA5
              go_wp2_with fail
              refine (HF.out b w6 (by omega)).mono ?_; rintro e w7 ⟨rfl, hb7⟩
              rw [show (⟨(foldB (bytes b)).toArray⟩ : ByteArray) = Y by rw [← HBE.out, HYE.out]]
              have HB7 := Lib.hid (HB6.out.step hb7 HB6.out.size)
              have HA7 := Lib.hid (HA6.out.step hb7)
              have HM7 := Lib.hid ((HB7.out.cell (p := ⟨1, 0, none⟩) HW0.out).trans HM.out)
              clear hb7 HM6 HB6 HA6
              go_wp2_with fail
              refine (HG.out _ w7 (by simp only [ByteArray.size_append]; show X.size + 1 + Y.size ≤ 100000; omega) HM7.out).mono ?_; rintro e w8 ⟨rfl, hb8⟩
              rw [show goodB (bytes (X ++ { data := #[46] } ++ Y)) = true by rw [nb_cat, nb_cat, ← HXE.out, ← HYE.out, show bytes { data := #[46] } = [46] from rfl, show bytes ⟨A.toArray⟩ ++ [46] ++ bytes ⟨B.toArray⟩ = A ++ 46 :: B by simp [bytes], g1]]
              have HB8 := Lib.hid (HB7.out.step (below_drew hb8) HB7.out.size)
              have HA8 := Lib.hid (HA7.out.step (below_drew hb8))
              have HM8 := Lib.hid ((HB8.out.cell (p := ⟨1, 0, none⟩) HW0.out).trans HM.out)
              clear hb8 HM7 HB7 HA7
              go_wp2_with fail
              refine (HF.out a w8 (by omega)).mono ?_; rintro e w9 ⟨rfl, hb9⟩
              rw [show (⟨(foldB (bytes a)).toArray⟩ : ByteArray) = X by rw [← HAE.out, HXE.out]]
              have HB9 := Lib.hid (HB8.out.step hb9 HB8.out.size)
              have HA9 := Lib.hid (HA8.out.step hb9)
              have HM9 := Lib.hid ((HB9.out.cell (p := ⟨1, 0, none⟩) HW0.out).trans HM.out)
              clear hb9 HM8 HB8 HA8
              go_wp2_with fail
              refine (HG.out X w9 (by omega) HM9.out).mono ?_; rintro e w10 ⟨rfl, hb10⟩
              rw [show goodB (bytes X) = false by rw [← HXE.out, show bytes ⟨A.toArray⟩ = A by simp [bytes], g2]]
              have HB10 := Lib.hid (HB9.out.step (below_drew hb10) HB9.out.size)
              have HA10 := Lib.hid (HA9.out.step (below_drew hb10))
              have HM10 := Lib.hid ((HB10.out.cell (p := ⟨1, 0, none⟩) HW0.out).trans HM.out)
              clear hb10 HM9 HB9 HA9
              have hWn : (X ++ { data := #[46] } ++ Y : ByteArray).toList.isEmpty = false := str_some _ (by simp only [ByteArray.size_append]; show 0 < X.size + 1 + Y.size; omega)
              go_wp2_with fail
              refine (HG.out _ w10 (by simp only [ByteArray.size_append]; show X.size + 1 + Y.size ≤ 100000; omega) HM10.out).mono ?_; rintro e w11 ⟨rfl, hb11⟩
              rw [show goodB (bytes (X ++ { data := #[46] } ++ Y)) = true by rw [nb_cat, nb_cat, ← HXE.out, ← HYE.out, show bytes { data := #[46] } = [46] from rfl, show bytes ⟨A.toArray⟩ ++ [46] ++ bytes ⟨B.toArray⟩ = A ++ 46 :: B by simp [bytes], g1]]
              have HB11 := Lib.hid (HB10.out.step (below_drew hb11) HB10.out.size)
              have HA11 := Lib.hid (HA10.out.step (below_drew hb11))
              have HM11 := Lib.hid ((HB11.out.cell (p := ⟨1, 0, none⟩) HW0.out).trans HM.out)
              clear hb11 HM10 HB10 HA10
              go_wp2_with fail
              go_ret
              exact ⟨rfl, HB11.out⟩
          | false =>
            cases g2 : goodB A with
            | true =>
              have HA3 := Lib.hid HA.out
              go_wp2_with fail
              refine (HK.out (some ⟨g, 0, none⟩) (foldRow (bytes a) (bytes b) k) n vc wr HFL.out (by omega) HA3.out HFX.out HM3.out).mono ?_; rintro e w4 ⟨rfl, hb4⟩
              rw [HTR.out, g1, if_neg (by simp)]
              have HB4 := Lib.hid (HB3.out.step hb4 HB3.out.size)
              have HA4 := Lib.hid (HA3.out.step hb4)
              have HM4 := Lib.hid ((HB4.out.cell (p := ⟨1, 0, none⟩) HW0.out).trans HM.out)
              clear hb4 HM3 HB3 HA3
              go_wp2_with fail
              refine (HK.out (some ⟨g, 0, none⟩) [⟨119, bytes a, 0, 0⟩, ⟨111, [46], 0, 0⟩] 2 vc w4 rfl (by omega) (HA4.out.take 2) (fun q hq => HFX.out q (by unfold foldRow; simp at hq; rcases hq with rfl | rfl <;> simp)) HM4.out).mono ?_; rintro e w5 ⟨rfl, hb5⟩
              rw [HTW.out, g2, if_pos rfl]
              have HB5 := Lib.hid (HB4.out.step hb5 HB4.out.size)
              have HA5 := Lib.hid (HA4.out.step hb5)
              have HM5 := Lib.hid ((HB5.out.cell (p := ⟨1, 0, none⟩) HW0.out).trans HM.out)
              clear hb5 HM4 HB4 HA4
              have hX : (⟨A.toArray⟩ : ByteArray).size ≤ 100 := by rw [str_size]; exact hAl
              have hY : (⟨B.toArray⟩ : ByteArray).size ≤ 100 := by rw [str_size]; exact hBl
              generalize hXe : (⟨A.toArray⟩ : ByteArray) = X at hX ⊢
              generalize hYe : (⟨B.toArray⟩ : ByteArray) = Y at hY ⊢
              have HXE := Lib.hid hXe; have HYE := Lib.hid hYe
              clear hXe hYe
              go_wp2_with fail
              refine (HF.out a w5 (by omega)).mono ?_; rintro e w6 ⟨rfl, hb6⟩
              rw [show (⟨(foldB (bytes a)).toArray⟩ : ByteArray) = X by rw [← HAE.out, HXE.out]]
              have HB6 := Lib.hid (HB5.out.step hb6 HB5.out.size)
              have HA6 := Lib.hid (HA5.out.step hb6)
              have HM6 := Lib.hid ((HB6.out.cell (p := ⟨1, 0, none⟩) HW0.out).trans HM.out)
              clear hb6 HM5 HB5 HA5
              go_wp2_with fail
              refine (HF.out b w6 (by omega)).mono ?_; rintro e w7 ⟨rfl, hb7⟩
              rw [show (⟨(foldB (bytes b)).toArray⟩ : ByteArray) = Y by rw [← HBE.out, HYE.out]]
              have HB7 := Lib.hid (HB6.out.step hb7 HB6.out.size)
              have HA7 := Lib.hid (HA6.out.step hb7)
              have HM7 := Lib.hid ((HB7.out.cell (p := ⟨1, 0, none⟩) HW0.out).trans HM.out)
              clear hb7 HM6 HB6 HA6
              go_wp2_with fail
              refine (HG.out _ w7 (by simp only [ByteArray.size_append]; show X.size + 1 + Y.size ≤ 100000; omega) HM7.out).mono ?_; rintro e w8 ⟨rfl, hb8⟩
              rw [show goodB (bytes (X ++ { data := #[46] } ++ Y)) = false by rw [nb_cat, nb_cat, ← HXE.out, ← HYE.out, show bytes { data := #[46] } = [46] from rfl, show bytes ⟨A.toArray⟩ ++ [46] ++ bytes ⟨B.toArray⟩ = A ++ 46 :: B by simp [bytes], g1]]
              have HB8 := Lib.hid (HB7.out.step (below_drew hb8) HB7.out.size)
              have HA8 := Lib.hid (HA7.out.step (below_drew hb8))
              have HM8 := Lib.hid ((HB8.out.cell (p := ⟨1, 0, none⟩) HW0.out).trans HM.out)
              clear hb8 HM7 HB7 HA7
              go_wp2_with fail
              refine (HF.out a w8 (by omega)).mono ?_; rintro e w9 ⟨rfl, hb9⟩
              rw [show (⟨(foldB (bytes a)).toArray⟩ : ByteArray) = X by rw [← HAE.out, HXE.out]]
              have HB9 := Lib.hid (HB8.out.step hb9 HB8.out.size)
              have HA9 := Lib.hid (HA8.out.step hb9)
              have HM9 := Lib.hid ((HB9.out.cell (p := ⟨1, 0, none⟩) HW0.out).trans HM.out)
              clear hb9 HM8 HB8 HA8
              go_wp2_with fail
              refine (HG.out X w9 (by omega) HM9.out).mono ?_; rintro e w10 ⟨rfl, hb10⟩
              rw [show goodB (bytes X) = true by rw [← HXE.out, show bytes ⟨A.toArray⟩ = A by simp [bytes], g2]]
              have HB10 := Lib.hid (HB9.out.step (below_drew hb10) HB9.out.size)
              have HA10 := Lib.hid (HA9.out.step (below_drew hb10))
              have HM10 := Lib.hid ((HB10.out.cell (p := ⟨1, 0, none⟩) HW0.out).trans HM.out)
              clear hb10 HM9 HB9 HA9
              go_wp2_with fail
              refine (HF.out a w10 (by omega)).mono ?_; rintro e w11 ⟨rfl, hb11⟩
              rw [show (⟨(foldB (bytes a)).toArray⟩ : ByteArray) = X by rw [← HAE.out, HXE.out]]
              have HB11 := Lib.hid (HB10.out.step hb11 HB10.out.size)
              have HA11 := Lib.hid (HA10.out.step hb11)
              have HM11 := Lib.hid ((HB11.out.cell (p := ⟨1, 0, none⟩) HW0.out).trans HM.out)
              clear hb11 HM10 HB10 HA10
              have hXn : X.toList.isEmpty = false := str_some X (by rw [← HXE.out, str_size]; exact List.length_pos_iff.2 (good_some g2))
              go_wp2_with fail
              go_ret
              exact ⟨rfl, HB11.out⟩
            | false =>
              have HA3 := Lib.hid HA.out
              go_wp2_with fail
              refine (HK.out (some ⟨g, 0, none⟩) (foldRow (bytes a) (bytes b) k) n vc wr HFL.out (by omega) HA3.out HFX.out HM3.out).mono ?_; rintro e w4 ⟨rfl, hb4⟩
              rw [HTR.out, g1, if_neg (by simp)]
              have HB4 := Lib.hid (HB3.out.step hb4 HB3.out.size)
              have HA4 := Lib.hid (HA3.out.step hb4)
              have HM4 := Lib.hid ((HB4.out.cell (p := ⟨1, 0, none⟩) HW0.out).trans HM.out)
              clear hb4 HM3 HB3 HA3
              go_wp2_with fail
              refine (HK.out (some ⟨g, 0, none⟩) [⟨119, bytes a, 0, 0⟩, ⟨111, [46], 0, 0⟩] 2 vc w4 rfl (by omega) (HA4.out.take 2) (fun q hq => HFX.out q (by unfold foldRow; simp at hq; rcases hq with rfl | rfl <;> simp)) HM4.out).mono ?_; rintro e w5 ⟨rfl, hb5⟩
              rw [HTW.out, g2, if_neg (by simp)]
              have HB5 := Lib.hid (HB4.out.step hb5 HB4.out.size)
              have HA5 := Lib.hid (HA4.out.step hb5)
              have HM5 := Lib.hid ((HB5.out.cell (p := ⟨1, 0, none⟩) HW0.out).trans HM.out)
              clear hb5 HM4 HB4 HA4
              have hX : (⟨A.toArray⟩ : ByteArray).size ≤ 100 := by rw [str_size]; exact hAl
              have hY : (⟨B.toArray⟩ : ByteArray).size ≤ 100 := by rw [str_size]; exact hBl
              generalize hXe : (⟨A.toArray⟩ : ByteArray) = X at hX ⊢
              generalize hYe : (⟨B.toArray⟩ : ByteArray) = Y at hY ⊢
              have HXE := Lib.hid hXe; have HYE := Lib.hid hYe
              clear hXe hYe
              go_wp2_with fail
              refine (HF.out a w5 (by omega)).mono ?_; rintro e w6 ⟨rfl, hb6⟩
              rw [show (⟨(foldB (bytes a)).toArray⟩ : ByteArray) = X by rw [← HAE.out, HXE.out]]
              have HB6 := Lib.hid (HB5.out.step hb6 HB5.out.size)
              have HA6 := Lib.hid (HA5.out.step hb6)
              have HM6 := Lib.hid ((HB6.out.cell (p := ⟨1, 0, none⟩) HW0.out).trans HM.out)
              clear hb6 HM5 HB5 HA5
              go_wp2_with fail
              refine (HF.out b w6 (by omega)).mono ?_; rintro e w7 ⟨rfl, hb7⟩
              rw [show (⟨(foldB (bytes b)).toArray⟩ : ByteArray) = Y by rw [← HBE.out, HYE.out]]
              have HB7 := Lib.hid (HB6.out.step hb7 HB6.out.size)
              have HA7 := Lib.hid (HA6.out.step hb7)
              have HM7 := Lib.hid ((HB7.out.cell (p := ⟨1, 0, none⟩) HW0.out).trans HM.out)
              clear hb7 HM6 HB6 HA6
              go_wp2_with fail
              refine (HG.out _ w7 (by simp only [ByteArray.size_append]; show X.size + 1 + Y.size ≤ 100000; omega) HM7.out).mono ?_; rintro e w8 ⟨rfl, hb8⟩
              rw [show goodB (bytes (X ++ { data := #[46] } ++ Y)) = false by rw [nb_cat, nb_cat, ← HXE.out, ← HYE.out, show bytes { data := #[46] } = [46] from rfl, show bytes ⟨A.toArray⟩ ++ [46] ++ bytes ⟨B.toArray⟩ = A ++ 46 :: B by simp [bytes], g1]]
              have HB8 := Lib.hid (HB7.out.step (below_drew hb8) HB7.out.size)
              have HA8 := Lib.hid (HA7.out.step (below_drew hb8))
              have HM8 := Lib.hid ((HB8.out.cell (p := ⟨1, 0, none⟩) HW0.out).trans HM.out)
              clear hb8 HM7 HB7 HA7
              go_wp2_with fail
              refine (HF.out a w8 (by omega)).mono ?_; rintro e w9 ⟨rfl, hb9⟩
              rw [show (⟨(foldB (bytes a)).toArray⟩ : ByteArray) = X by rw [← HAE.out, HXE.out]]
              have HB9 := Lib.hid (HB8.out.step hb9 HB8.out.size)
              have HA9 := Lib.hid (HA8.out.step hb9)
              have HM9 := Lib.hid ((HB9.out.cell (p := ⟨1, 0, none⟩) HW0.out).trans HM.out)
              clear hb9 HM8 HB8 HA8
              go_wp2_with fail
              refine (HG.out X w9 (by omega) HM9.out).mono ?_; rintro e w10 ⟨rfl, hb10⟩
              rw [show goodB (bytes X) = false by rw [← HXE.out, show bytes ⟨A.toArray⟩ = A by simp [bytes], g2]]
              have HB10 := Lib.hid (HB9.out.step (below_drew hb10) HB9.out.size)
              have HA10 := Lib.hid (HA9.out.step (below_drew hb10))
              have HM10 := Lib.hid ((HB10.out.cell (p := ⟨1, 0, none⟩) HW0.out).trans HM.out)
              clear hb10 HM9 HB9 HA9
              go_wp2_with fail
              go_ret
              exact ⟨rfl, HB10.out⟩
        · have hx5 : decide ((k : Int) < 5) = false := decide_eq_false (by omega)
          cases g1 : goodB (A ++ 46 :: B) with
          | true =>
            cases g2 : goodB A with
            | true =>
              have HA3 := Lib.hid HA.out
              go_wp2_with fail
              refine (HK.out (some ⟨g, 0, none⟩) (foldRow (bytes a) (bytes b) k) n vc wr HFL.out (by omega) HA3.out HFX.out HM3.out).mono ?_; rintro e w4 ⟨rfl, hb4⟩
              rw [HTR.out, g1, if_pos rfl, show (A ++ 46 :: B, 3).1 = A ++ 46 :: B from rfl, cat3]
              have HB4 := Lib.hid (HB3.out.step hb4 HB3.out.size)
              have HA4 := Lib.hid (HA3.out.step hb4)
              have HM4 := Lib.hid ((HB4.out.cell (p := ⟨1, 0, none⟩) HW0.out).trans HM.out)
              clear hb4 HM3 HB3 HA3
              go_wp2_with fail
              refine (HK.out (some ⟨g, 0, none⟩) [⟨119, bytes a, 0, 0⟩, ⟨111, [46], 0, 0⟩] 2 vc w4 rfl (by omega) (HA4.out.take 2) (fun q hq => HFX.out q (by unfold foldRow; simp at hq; rcases hq with rfl | rfl <;> simp)) HM4.out).mono ?_; rintro e w5 ⟨rfl, hb5⟩
              rw [HTW.out, g2, if_pos rfl]
              have HB5 := Lib.hid (HB4.out.step hb5 HB4.out.size)
              have HA5 := Lib.hid (HA4.out.step hb5)
              have HM5 := Lib.hid ((HB5.out.cell (p := ⟨1, 0, none⟩) HW0.out).trans HM.out)
              clear hb5 HM4 HB4 HA4
              have hX : (⟨A.toArray⟩ : ByteArray).size ≤ 100 := by rw [str_size]; exact hAl
              have hY : (⟨B.toArray⟩ : ByteArray).size ≤ 100 := by rw [str_size]; exact hBl
              generalize hXe : (⟨A.toArray⟩ : ByteArray) = X at hX ⊢
              generalize hYe : (⟨B.toArray⟩ : ByteArray) = Y at hY ⊢
              have HXE := Lib.hid hXe; have HYE := Lib.hid hYe
              clear hXe hYe
              go_wp2_with fail
              refine (HF.out a w5 (by omega)).mono ?_; rintro e w6 ⟨rfl, hb6⟩
              rw [show (⟨(foldB (bytes a)).toArray⟩ : ByteArray) = X by rw [← HAE.out, HXE.out]]
              have HB6 := Lib.hid (HB5.out.step hb6 HB5.out.size)
              have HA6 := Lib.hid (HA5.out.step hb6)
              have HM6 := Lib.hid ((HB6.out.cell (p := ⟨1, 0, none⟩) HW0.out).trans HM.out)
              clear hb6 HM5 HB5 HA5
              go_wp2_with fail
              refine (HF.out b w6 (by omega)).mono ?_; rintro e w7 ⟨rfl, hb7⟩
              rw [show (⟨(foldB (bytes b)).toArray⟩ : ByteArray) = Y by rw [← HBE.out, HYE.out]]
              have HB7 := Lib.hid (HB6.out.step hb7 HB6.out.size)
              have HA7 := Lib.hid (HA6.out.step hb7)
              have HM7 := Lib.hid ((HB7.out.cell (p := ⟨1, 0, none⟩) HW0.out).trans HM.out)
              clear hb7 HM6 HB6 HA6
              go_wp2_with fail
              refine (HG.out _ w7 (by simp only [ByteArray.size_append]; show X.size + 1 + Y.size ≤ 100000; omega) HM7.out).mono ?_; rintro e w8 ⟨rfl, hb8⟩
              rw [show goodB (bytes (X ++ { data := #[46] } ++ Y)) = true by rw [nb_cat, nb_cat, ← HXE.out, ← HYE.out, show bytes { data := #[46] } = [46] from rfl, show bytes ⟨A.toArray⟩ ++ [46] ++ bytes ⟨B.toArray⟩ = A ++ 46 :: B by simp [bytes], g1]]
              have HB8 := Lib.hid (HB7.out.step (below_drew hb8) HB7.out.size)
              have HA8 := Lib.hid (HA7.out.step (below_drew hb8))
              have HM8 := Lib.hid ((HB8.out.cell (p := ⟨1, 0, none⟩) HW0.out).trans HM.out)
              clear hb8 HM7 HB7 HA7
              go_wp2_with fail
              refine (HF.out a w8 (by omega)).mono ?_; rintro e w9 ⟨rfl, hb9⟩
              rw [show (⟨(foldB (bytes a)).toArray⟩ : ByteArray) = X by rw [← HAE.out, HXE.out]]
              have HB9 := Lib.hid (HB8.out.step hb9 HB8.out.size)
              have HA9 := Lib.hid (HA8.out.step hb9)
              have HM9 := Lib.hid ((HB9.out.cell (p := ⟨1, 0, none⟩) HW0.out).trans HM.out)
              clear hb9 HM8 HB8 HA8
              go_wp2_with fail
              refine (HG.out X w9 (by omega) HM9.out).mono ?_; rintro e w10 ⟨rfl, hb10⟩
              rw [show goodB (bytes X) = true by rw [← HXE.out, show bytes ⟨A.toArray⟩ = A by simp [bytes], g2]]
              have HB10 := Lib.hid (HB9.out.step (below_drew hb10) HB9.out.size)
              have HA10 := Lib.hid (HA9.out.step (below_drew hb10))
              have HM10 := Lib.hid ((HB10.out.cell (p := ⟨1, 0, none⟩) HW0.out).trans HM.out)
              clear hb10 HM9 HB9 HA9
              go_wp2_with fail
              refine (HF.out a w10 (by omega)).mono ?_; rintro e w11 ⟨rfl, hb11⟩
              rw [show (⟨(foldB (bytes a)).toArray⟩ : ByteArray) = X by rw [← HAE.out, HXE.out]]
              have HB11 := Lib.hid (HB10.out.step hb11 HB10.out.size)
              have HA11 := Lib.hid (HA10.out.step hb11)
              have HM11 := Lib.hid ((HB11.out.cell (p := ⟨1, 0, none⟩) HW0.out).trans HM.out)
              clear hb11 HM10 HB10 HA10
              have hXn : X.toList.isEmpty = false := str_some X (by rw [← HXE.out, str_size]; exact List.length_pos_iff.2 (good_some g2))
              have hWn : (X ++ { data := #[46] } ++ Y : ByteArray).toList.isEmpty = false := str_some _ (by simp only [ByteArray.size_append]; show 0 < X.size + 1 + Y.size; omega)
              go_wp2_with fail
              refine (HG.out _ w11 (by simp only [ByteArray.size_append]; show X.size + 1 + Y.size ≤ 100000; omega) HM11.out).mono ?_; rintro e w12 ⟨rfl, hb12⟩
              rw [show goodB (bytes (X ++ { data := #[46] } ++ Y)) = true by rw [nb_cat, nb_cat, ← HXE.out, ← HYE.out, show bytes { data := #[46] } = [46] from rfl, show bytes ⟨A.toArray⟩ ++ [46] ++ bytes ⟨B.toArray⟩ = A ++ 46 :: B by simp [bytes], g1]]
              have HB12 := Lib.hid (HB11.out.step (below_drew hb12) HB11.out.size)
              have HA12 := Lib.hid (HA11.out.step (below_drew hb12))
              have HM12 := Lib.hid ((HB12.out.cell (p := ⟨1, 0, none⟩) HW0.out).trans HM.out)
              clear hb12 HM11 HB11 HA11
              go_wp2_with fail
              go_ret
              exact ⟨rfl, HB12.out⟩
            | false =>
              have HA3 := Lib.hid HA.out
              go_wp2_with fail
              refine (HK.out (some ⟨g, 0, none⟩) (foldRow (bytes a) (bytes b) k) n vc wr HFL.out (by omega) HA3.out HFX.out HM3.out).mono ?_; rintro e w4 ⟨rfl, hb4⟩
              rw [HTR.out, g1, if_pos rfl, show (A ++ 46 :: B, 3).1 = A ++ 46 :: B from rfl, cat3]
              have HB4 := Lib.hid (HB3.out.step hb4 HB3.out.size)
              have HA4 := Lib.hid (HA3.out.step hb4)
              have HM4 := Lib.hid ((HB4.out.cell (p := ⟨1, 0, none⟩) HW0.out).trans HM.out)
              clear hb4 HM3 HB3 HA3
              go_wp2_with fail
              refine (HK.out (some ⟨g, 0, none⟩) [⟨119, bytes a, 0, 0⟩, ⟨111, [46], 0, 0⟩] 2 vc w4 rfl (by omega) (HA4.out.take 2) (fun q hq => HFX.out q (by unfold foldRow; simp at hq; rcases hq with rfl | rfl <;> simp)) HM4.out).mono ?_; rintro e w5 ⟨rfl, hb5⟩
              rw [HTW.out, g2, if_neg (by simp)]
              have HB5 := Lib.hid (HB4.out.step hb5 HB4.out.size)
              have HA5 := Lib.hid (HA4.out.step hb5)
              have HM5 := Lib.hid ((HB5.out.cell (p := ⟨1, 0, none⟩) HW0.out).trans HM.out)
              clear hb5 HM4 HB4 HA4
              have hX : (⟨A.toArray⟩ : ByteArray).size ≤ 100 := by rw [str_size]; exact hAl
              have hY : (⟨B.toArray⟩ : ByteArray).size ≤ 100 := by rw [str_size]; exact hBl
              generalize hXe : (⟨A.toArray⟩ : ByteArray) = X at hX ⊢
              generalize hYe : (⟨B.toArray⟩ : ByteArray) = Y at hY ⊢
              have HXE := Lib.hid hXe; have HYE := Lib.hid hYe
              clear hXe hYe
              go_wp2_with fail
              refine (HF.out a w5 (by omega)).mono ?_; rintro e w6 ⟨rfl, hb6⟩
              rw [show (⟨(foldB (bytes a)).toArray⟩ : ByteArray) = X by rw [← HAE.out, HXE.out]]
              have HB6 := Lib.hid (HB5.out.step hb6 HB5.out.size)
              have HA6 := Lib.hid (HA5.out.step hb6)
              have HM6 := Lib.hid ((HB6.out.cell (p := ⟨1, 0, none⟩) HW0.out).trans HM.out)
              clear hb6 HM5 HB5 HA5
              go_wp2_with fail
              refine (HF.out b w6 (by omega)).mono ?_; rintro e w7 ⟨rfl, hb7⟩
              rw [show (⟨(foldB (bytes b)).toArray⟩ : ByteArray) = Y by rw [← HBE.out, HYE.out]]
              have HB7 := Lib.hid (HB6.out.step hb7 HB6.out.size)
              have HA7 := Lib.hid (HA6.out.step hb7)
              have HM7 := Lib.hid ((HB7.out.cell (p := ⟨1, 0, none⟩) HW0.out).trans HM.out)
              clear hb7 HM6 HB6 HA6
              go_wp2_with fail
              refine (HG.out _ w7 (by simp only [ByteArray.size_append]; show X.size + 1 + Y.size ≤ 100000; omega) HM7.out).mono ?_; rintro e w8 ⟨rfl, hb8⟩
              rw [show goodB (bytes (X ++ { data := #[46] } ++ Y)) = true by rw [nb_cat, nb_cat, ← HXE.out, ← HYE.out, show bytes { data := #[46] } = [46] from rfl, show bytes ⟨A.toArray⟩ ++ [46] ++ bytes ⟨B.toArray⟩ = A ++ 46 :: B by simp [bytes], g1]]
              have HB8 := Lib.hid (HB7.out.step (below_drew hb8) HB7.out.size)
              have HA8 := Lib.hid (HA7.out.step (below_drew hb8))
              have HM8 := Lib.hid ((HB8.out.cell (p := ⟨1, 0, none⟩) HW0.out).trans HM.out)
              clear hb8 HM7 HB7 HA7
              go_wp2_with fail
              refine (HF.out a w8 (by omega)).mono ?_; rintro e w9 ⟨rfl, hb9⟩
              rw [show (⟨(foldB (bytes a)).toArray⟩ : ByteArray) = X by rw [← HAE.out, HXE.out]]
              have HB9 := Lib.hid (HB8.out.step hb9 HB8.out.size)
              have HA9 := Lib.hid (HA8.out.step hb9)
              have HM9 := Lib.hid ((HB9.out.cell (p := ⟨1, 0, none⟩) HW0.out).trans HM.out)
              clear hb9 HM8 HB8 HA8
              go_wp2_with fail
              refine (HG.out X w9 (by omega) HM9.out).mono ?_; rintro e w10 ⟨rfl, hb10⟩
              rw [show goodB (bytes X) = false by rw [← HXE.out, show bytes ⟨A.toArray⟩ = A by simp [bytes], g2]]
              have HB10 := Lib.hid (HB9.out.step (below_drew hb10) HB9.out.size)
              have HA10 := Lib.hid (HA9.out.step (below_drew hb10))
              have HM10 := Lib.hid ((HB10.out.cell (p := ⟨1, 0, none⟩) HW0.out).trans HM.out)
              clear hb10 HM9 HB9 HA9
              have hWn : (X ++ { data := #[46] } ++ Y : ByteArray).toList.isEmpty = false := str_some _ (by simp only [ByteArray.size_append]; show 0 < X.size + 1 + Y.size; omega)
              go_wp2_with fail
              refine (HG.out _ w10 (by simp only [ByteArray.size_append]; show X.size + 1 + Y.size ≤ 100000; omega) HM10.out).mono ?_; rintro e w11 ⟨rfl, hb11⟩
              rw [show goodB (bytes (X ++ { data := #[46] } ++ Y)) = true by rw [nb_cat, nb_cat, ← HXE.out, ← HYE.out, show bytes { data := #[46] } = [46] from rfl, show bytes ⟨A.toArray⟩ ++ [46] ++ bytes ⟨B.toArray⟩ = A ++ 46 :: B by simp [bytes], g1]]
              have HB11 := Lib.hid (HB10.out.step (below_drew hb11) HB10.out.size)
              have HA11 := Lib.hid (HA10.out.step (below_drew hb11))
              have HM11 := Lib.hid ((HB11.out.cell (p := ⟨1, 0, none⟩) HW0.out).trans HM.out)
              clear hb11 HM10 HB10 HA10
              go_wp2_with fail
              go_ret
              exact ⟨rfl, HB11.out⟩
          | false =>
            cases g2 : goodB A with
            | true =>
              have HA3 := Lib.hid HA.out
              go_wp2_with fail
              refine (HK.out (some ⟨g, 0, none⟩) (foldRow (bytes a) (bytes b) k) n vc wr HFL.out (by omega) HA3.out HFX.out HM3.out).mono ?_; rintro e w4 ⟨rfl, hb4⟩
              rw [HTR.out, g1, if_neg (by simp)]
              have HB4 := Lib.hid (HB3.out.step hb4 HB3.out.size)
              have HA4 := Lib.hid (HA3.out.step hb4)
              have HM4 := Lib.hid ((HB4.out.cell (p := ⟨1, 0, none⟩) HW0.out).trans HM.out)
              clear hb4 HM3 HB3 HA3
              go_wp2_with fail
              refine (HK.out (some ⟨g, 0, none⟩) [⟨119, bytes a, 0, 0⟩, ⟨111, [46], 0, 0⟩] 2 vc w4 rfl (by omega) (HA4.out.take 2) (fun q hq => HFX.out q (by unfold foldRow; simp at hq; rcases hq with rfl | rfl <;> simp)) HM4.out).mono ?_; rintro e w5 ⟨rfl, hb5⟩
              rw [HTW.out, g2, if_pos rfl]
              have HB5 := Lib.hid (HB4.out.step hb5 HB4.out.size)
              have HA5 := Lib.hid (HA4.out.step hb5)
              have HM5 := Lib.hid ((HB5.out.cell (p := ⟨1, 0, none⟩) HW0.out).trans HM.out)
              clear hb5 HM4 HB4 HA4
              have hX : (⟨A.toArray⟩ : ByteArray).size ≤ 100 := by rw [str_size]; exact hAl
              have hY : (⟨B.toArray⟩ : ByteArray).size ≤ 100 := by rw [str_size]; exact hBl
              generalize hXe : (⟨A.toArray⟩ : ByteArray) = X at hX ⊢
              generalize hYe : (⟨B.toArray⟩ : ByteArray) = Y at hY ⊢
              have HXE := Lib.hid hXe; have HYE := Lib.hid hYe
              clear hXe hYe
              go_wp2_with fail
              refine (HF.out a w5 (by omega)).mono ?_; rintro e w6 ⟨rfl, hb6⟩
              rw [show (⟨(foldB (bytes a)).toArray⟩ : ByteArray) = X by rw [← HAE.out, HXE.out]]
              have HB6 := Lib.hid (HB5.out.step hb6 HB5.out.size)
              have HA6 := Lib.hid (HA5.out.step hb6)
              have HM6 := Lib.hid ((HB6.out.cell (p := ⟨1, 0, none⟩) HW0.out).trans HM.out)
              clear hb6 HM5 HB5 HA5
              go_wp2_with fail
              refine (HF.out b w6 (by omega)).mono ?_; rintro e w7 ⟨rfl, hb7⟩
              rw [show (⟨(foldB (bytes b)).toArray⟩ : ByteArray) = Y by rw [← HBE.out, HYE.out]]
              have HB7 := Lib.hid (HB6.out.step hb7 HB6.out.size)
              have HA7 := Lib.hid (HA6.out.step hb7)
              have HM7 := Lib.hid ((HB7.out.cell (p := ⟨1, 0, none⟩) HW0.out).trans HM.out)
              clear hb7 HM6 HB6 HA6
              go_wp2_with fail
              refine (HG.out _ w7 (by simp only [ByteArray.size_append]; show X.size + 1 + Y.size ≤ 100000; omega) HM7.out).mono ?_; rintro e w8 ⟨rfl, hb8⟩
              rw [show goodB (bytes (X ++ { data := #[46] } ++ Y)) = false by rw [nb_cat, nb_cat, ← HXE.out, ← HYE.out, show bytes { data := #[46] } = [46] from rfl, show bytes ⟨A.toArray⟩ ++ [46] ++ bytes ⟨B.toArray⟩ = A ++ 46 :: B by simp [bytes], g1]]
              have HB8 := Lib.hid (HB7.out.step (below_drew hb8) HB7.out.size)
              have HA8 := Lib.hid (HA7.out.step (below_drew hb8))
              have HM8 := Lib.hid ((HB8.out.cell (p := ⟨1, 0, none⟩) HW0.out).trans HM.out)
              clear hb8 HM7 HB7 HA7
              go_wp2_with fail
              refine (HF.out a w8 (by omega)).mono ?_; rintro e w9 ⟨rfl, hb9⟩
              rw [show (⟨(foldB (bytes a)).toArray⟩ : ByteArray) = X by rw [← HAE.out, HXE.out]]
              have HB9 := Lib.hid (HB8.out.step hb9 HB8.out.size)
              have HA9 := Lib.hid (HA8.out.step hb9)
              have HM9 := Lib.hid ((HB9.out.cell (p := ⟨1, 0, none⟩) HW0.out).trans HM.out)
              clear hb9 HM8 HB8 HA8
              go_wp2_with fail
              refine (HG.out X w9 (by omega) HM9.out).mono ?_; rintro e w10 ⟨rfl, hb10⟩
              rw [show goodB (bytes X) = true by rw [← HXE.out, show bytes ⟨A.toArray⟩ = A by simp [bytes], g2]]
              have HB10 := Lib.hid (HB9.out.step (below_drew hb10) HB9.out.size)
              have HA10 := Lib.hid (HA9.out.step (below_drew hb10))
              have HM10 := Lib.hid ((HB10.out.cell (p := ⟨1, 0, none⟩) HW0.out).trans HM.out)
              clear hb10 HM9 HB9 HA9
              go_wp2_with fail
              refine (HF.out a w10 (by omega)).mono ?_; rintro e w11 ⟨rfl, hb11⟩
              rw [show (⟨(foldB (bytes a)).toArray⟩ : ByteArray) = X by rw [← HAE.out, HXE.out]]
              have HB11 := Lib.hid (HB10.out.step hb11 HB10.out.size)
              have HA11 := Lib.hid (HA10.out.step hb11)
              have HM11 := Lib.hid ((HB11.out.cell (p := ⟨1, 0, none⟩) HW0.out).trans HM.out)
              clear hb11 HM10 HB10 HA10
              have hXn : X.toList.isEmpty = false := str_some X (by rw [← HXE.out, str_size]; exact List.length_pos_iff.2 (good_some g2))
              go_wp2_with fail
              go_ret
              exact ⟨rfl, HB11.out⟩
            | false =>
              have HA3 := Lib.hid HA.out
              go_wp2_with fail
              refine (HK.out (some ⟨g, 0, none⟩) (foldRow (bytes a) (bytes b) k) n vc wr HFL.out (by omega) HA3.out HFX.out HM3.out).mono ?_; rintro e w4 ⟨rfl, hb4⟩
              rw [HTR.out, g1, if_neg (by simp)]
              have HB4 := Lib.hid (HB3.out.step hb4 HB3.out.size)
              have HA4 := Lib.hid (HA3.out.step hb4)
              have HM4 := Lib.hid ((HB4.out.cell (p := ⟨1, 0, none⟩) HW0.out).trans HM.out)
              clear hb4 HM3 HB3 HA3
              go_wp2_with fail
              refine (HK.out (some ⟨g, 0, none⟩) [⟨119, bytes a, 0, 0⟩, ⟨111, [46], 0, 0⟩] 2 vc w4 rfl (by omega) (HA4.out.take 2) (fun q hq => HFX.out q (by unfold foldRow; simp at hq; rcases hq with rfl | rfl <;> simp)) HM4.out).mono ?_; rintro e w5 ⟨rfl, hb5⟩
              rw [HTW.out, g2, if_neg (by simp)]
              have HB5 := Lib.hid (HB4.out.step hb5 HB4.out.size)
              have HA5 := Lib.hid (HA4.out.step hb5)
              have HM5 := Lib.hid ((HB5.out.cell (p := ⟨1, 0, none⟩) HW0.out).trans HM.out)
              clear hb5 HM4 HB4 HA4
              have hX : (⟨A.toArray⟩ : ByteArray).size ≤ 100 := by rw [str_size]; exact hAl
              have hY : (⟨B.toArray⟩ : ByteArray).size ≤ 100 := by rw [str_size]; exact hBl
              generalize hXe : (⟨A.toArray⟩ : ByteArray) = X at hX ⊢
              generalize hYe : (⟨B.toArray⟩ : ByteArray) = Y at hY ⊢
              have HXE := Lib.hid hXe; have HYE := Lib.hid hYe
              clear hXe hYe
              go_wp2_with fail
              refine (HF.out a w5 (by omega)).mono ?_; rintro e w6 ⟨rfl, hb6⟩
              rw [show (⟨(foldB (bytes a)).toArray⟩ : ByteArray) = X by rw [← HAE.out, HXE.out]]
              have HB6 := Lib.hid (HB5.out.step hb6 HB5.out.size)
              have HA6 := Lib.hid (HA5.out.step hb6)
              have HM6 := Lib.hid ((HB6.out.cell (p := ⟨1, 0, none⟩) HW0.out).trans HM.out)
              clear hb6 HM5 HB5 HA5
              go_wp2_with fail
              refine (HF.out b w6 (by omega)).mono ?_; rintro e w7 ⟨rfl, hb7⟩
              rw [show (⟨(foldB (bytes b)).toArray⟩ : ByteArray) = Y by rw [← HBE.out, HYE.out]]
              have HB7 := Lib.hid (HB6.out.step hb7 HB6.out.size)
              have HA7 := Lib.hid (HA6.out.step hb7)
              have HM7 := Lib.hid ((HB7.out.cell (p := ⟨1, 0, none⟩) HW0.out).trans HM.out)
              clear hb7 HM6 HB6 HA6
              go_wp2_with fail
              refine (HG.out _ w7 (by simp only [ByteArray.size_append]; show X.size + 1 + Y.size ≤ 100000; omega) HM7.out).mono ?_; rintro e w8 ⟨rfl, hb8⟩
              rw [show goodB (bytes (X ++ { data := #[46] } ++ Y)) = false by rw [nb_cat, nb_cat, ← HXE.out, ← HYE.out, show bytes { data := #[46] } = [46] from rfl, show bytes ⟨A.toArray⟩ ++ [46] ++ bytes ⟨B.toArray⟩ = A ++ 46 :: B by simp [bytes], g1]]
              have HB8 := Lib.hid (HB7.out.step (below_drew hb8) HB7.out.size)
              have HA8 := Lib.hid (HA7.out.step (below_drew hb8))
              have HM8 := Lib.hid ((HB8.out.cell (p := ⟨1, 0, none⟩) HW0.out).trans HM.out)
              clear hb8 HM7 HB7 HA7
              go_wp2_with fail
              refine (HF.out a w8 (by omega)).mono ?_; rintro e w9 ⟨rfl, hb9⟩
              rw [show (⟨(foldB (bytes a)).toArray⟩ : ByteArray) = X by rw [← HAE.out, HXE.out]]
              have HB9 := Lib.hid (HB8.out.step hb9 HB8.out.size)
              have HA9 := Lib.hid (HA8.out.step hb9)
              have HM9 := Lib.hid ((HB9.out.cell (p := ⟨1, 0, none⟩) HW0.out).trans HM.out)
              clear hb9 HM8 HB8 HA8
              go_wp2_with fail
              refine (HG.out X w9 (by omega) HM9.out).mono ?_; rintro e w10 ⟨rfl, hb10⟩
              rw [show goodB (bytes X) = false by rw [← HXE.out, show bytes ⟨A.toArray⟩ = A by simp [bytes], g2]]
              have HB10 := Lib.hid (HB9.out.step (below_drew hb10) HB9.out.size)
              have HA10 := Lib.hid (HA9.out.step (below_drew hb10))
              have HM10 := Lib.hid ((HB10.out.cell (p := ⟨1, 0, none⟩) HW0.out).trans HM.out)
              clear hb10 HM9 HB9 HA9
              go_wp2_with fail
              go_ret
              exact ⟨rfl, HB10.out⟩
  · have hl' : (100 : Int) < (a.size : Int) + b.size := by omega
    go_enter Tryd.func5, Tryd.ntmps5
    go_wp2_with fail
    refine HSH.out.mono ?_; rintro e w1 ⟨rfl, hb1⟩
    have HB1 := Lib.hid hb1
    clear hb1 HSH
    go_wp2_with fail
    go_ret
    exact ⟨rfl, HB1.out⟩

set_option maxRecDepth 100000 in
theorem fold_lifted (os : Os) (started : os.Started) (H : Type) (enc : TypeId × Value → H) :
    ReturnsInHanded {} Tryd.checked os 5 .any (fun w args => (Rows.namesFoldSpec.pre enc Tryd.prog Tryd.f5 Rows.namesFoldRow.domain false w args ∧ laidMetH Tryd.prog [("unicode/utf8.acceptRanges", Rows.laid_unicode_utf8_acceptRanges), ("taxirank/names.taken", Rows.laid_taxirank_names_taken), ("unicode/utf8.first", Rows.laid_unicode_utf8_first)] w) ∧ sizedMet enc Tryd.prog Tryd.f5 (OpenSpec.ofChange Rows.namesFoldSpec) false w args) (Rows.namesFoldSpec.post enc Tryd.prog Tryd.f5 false true false false) := by
  refine handed_laid (C := Tryd.checked) (X := fun w _ => laidMetH Tryd.prog [("unicode/utf8.acceptRanges", Rows.laid_unicode_utf8_acceptRanges), ("taxirank/names.taken", Rows.laid_taxirank_names_taken), ("unicode/utf8.first", Rows.laid_unicode_utf8_first)] w) (fun _ _ _ hh h => h.of_heap hh) own started (by kernel_rfl) Tryd.func5
    (ChangeSpec.witness_shaped (enc := enc) (C := Tryd.checked) (os := os) (X := fun w _ => laidMetH Tryd.prog [("unicode/utf8.acceptRanges", Rows.laid_unicode_utf8_acceptRanges), ("taxirank/names.taken", Rows.laid_taxirank_names_taken), ("unicode/utf8.first", Rows.laid_unicode_utf8_first)] w) false (World.laidAll Tryd.prog os [("unicode/utf8.acceptRanges", Rows.laid_unicode_utf8_acceptRanges), ("taxirank/names.taken", Rows.laid_taxirank_names_taken), ("unicode/utf8.first", Rows.laid_unicode_utf8_first)]) #[.string { data := #[] }, .string { data := #[] }, .int .i64 0] 8 (World.laidAll_os _ _ _) (World.shaped_of_ZipB (by kernel_rfl) (by kernel_rfl)) (by kernel_rfl) (by kernel_rfl) (by kernel_rfl)
      (by rw [MakeChecks.laidMetH_plain _ _ _ (by kernel_rfl)]; exact laidMet_laidAll _ (by kernel_rfl) (by kernel_rfl))) ?_
  intro W base args ds gs before hval0 hW hsz0 hsh hL
  obtain ⟨m, hm⟩ : ∃ m, W.cell? ⟨1, 0, none⟩ = some (.int .i64 m) := Tryd.laysM143.s1_3 W hsh
  have hT := taken_of_laid hL
  have hsz : (DataW.weightsEach Tryd.prog (Tryd.f5.params.toList ++ Rows.namesFoldSpec.plain.varTypes Tryd.prog) (ds ++ gs)).all (· ≤ reachBytes) = true := hsz0
  clear hsz0
  have hval : ∀ (j : Nat) t v, Tryd.f5.params[j]? = some t → args[j]? = some v → Value.okWide Tryd.prog W .any base t v := hval0
  have hW' := hW
  obtain ⟨p, q, hA0, hV, rfl, _, _⟩ := hW
  have hA : DataW.TrodAll enc Tryd.prog W 0 (fun _ => true) true Tryd.f5.params.toList args.toList ds p := hA0
  rw [Tryd.params5] at hA hval hsz
  obtain ⟨v0, v1, v2, d0, d1, d2, p0, p1, p2, rfl, rfl, rfl, h0, h1, h2⟩ := trodAll_three hA
  obtain ⟨rfl, rfl⟩ := trodVars_none hV
  obtain ⟨a, rfl, rfl, rfl, hl_a⟩ := Go.ChangeMaps.open_string Tryd.underlying9 (hval 0 9 v0 rfl rfl) h0
  have hz_a : a.size ≤ 140737488351232 := by have := sized_string hsz (j := 0) (t := 9) rfl rfl; rw [size_list] at this; exact this
  obtain ⟨b, rfl, rfl, rfl, hl_b⟩ := Go.ChangeMaps.open_string Tryd.underlying9 (hval 1 9 v1 rfl rfl) h1
  have hz_b : b.size ≤ 140737488351232 := by have := sized_string hsz (j := 1) (t := 9) rfl rfl; rw [size_list] at this; exact this
  obtain ⟨more, rfl, rfl, rfl, wf_more⟩ := open_int Tryd.underlying3 (hval 2 3 v2 rfl rfl) h2
  have h_more := int_range wf_more
  refine (fold_ok a b more m W hz_a hz_b h_more hm hT).mono fun e W' ⟨he, hb⟩ => ?_
  subst he
  exact ⟨_, rfl, law_shut laidOut (by kernel_rfl) (by kernel_rfl) Tryd.underlying4 rfl hW' rfl hb⟩

theorem fold_holds : Rows.NamesFoldSaid :=
  OpenClaim.holds_of_wide 5 Tryd.f5 rfl rfl rfl rfl rfl rfl rfl ⟨rfl, rfl, rfl, rfl, rfl⟩ rfl rfl rfl rfl rfl (by kernel_rfl) Tryd.func5 (by kernel_rfl)
    (of_decide_eq_true (by kernel_rfl)) (by unfold Func.isWrapper; rw [if_neg (of_decide_eq_false (by kernel_rfl))]; exact ⟨rfl, rfl⟩)
    (fun os started H enc _ => fold_lifted os started H enc)

theorem fold_card : Rows.NamesFoldCardSaid :=
  Claim7.holds_tied_plain_at .later [] [.data, .data, .pinned] true _ false fold_holds (fun _ h => by cases h) (by kernel_rfl) (fun _ h => by cases h) namesFold_row_tie rfl ⟨rfl, rfl⟩ (by kernel_rfl) rfl
    (fun f fn hf hfn => by
      obtain rfl : f = 5 := Option.some.inj ((show Tryd.prog.funcNamed "taxirank/taxiranklaw7.NamesFold" = some 5 by kernel_rfl).symm.trans hf) |>.symm
      obtain rfl : fn = Tryd.f5 := (Option.some.inj (Tryd.func5.symm.trans hfn)).symm
      exact ⟨by kernel_rfl, fun j t ht => by
        rw [Tryd.params5] at ht
        have hm : t ∈ [9, 9, 3] := by simpa using Array.mem_of_getElem? ht
        have hall : ([9, 9, 3].all fun u => !Tryd.prog.wantsStandIn u) = true := by kernel_rfl
        exact (show Tryd.prog.wantsStandIn t = false by simpa using List.all_eq_true.1 hall t hm)⟩)
    (by kernel_rfl)
end Go.Proofs.YtalnflfafapicaaDoor
