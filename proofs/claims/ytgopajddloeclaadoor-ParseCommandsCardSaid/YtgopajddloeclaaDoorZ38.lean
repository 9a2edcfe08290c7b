/- Contracts and mathematics: QROf, QRAsAll, QRAs. -/
import Derived.Test.YtgopajddloeclaaDoorZ37
import Derived.Test.YtgopajddloeclaaDoorZ13
namespace Go.Proofs.YtgopajddloeclaaDoor
open Go.RowKit Go.Lib Go.WideShapes

theorem set_kind {L : List Tok} (h : (setC L).2 = true) : (setC L).1.kind ≠ 0 := by
  unfold setC at h ⊢
  split
  · rename_i hc; rw [if_pos hc] at h; cases h
  · rename_i hc
    rw [if_neg hc] at h
    split
    · show (114 : UInt8) ≠ 0; decide
    · rcases setRow_kind L with e | e <;> (show (setRow L).1 ≠ 0; rw [e]; decide)
theorem point_kind {k : UInt8} {L : List Tok} (hk : k ≠ 0) (h : (pointC k L).2 = true) : (pointC k L).1.kind ≠ 0 := by
  match L with
  | [] => cases h
  | [t] =>
    unfold pointC at h ⊢
    by_cases hn : nm t = true
    · simp [hn, hk]
    · simp [hn] at h
  | _ :: _ :: _ => cases h
theorem roll_kind {L : List Tok} (h : (rollC L).2 = true) : (rollC L).1.kind ≠ 0 := by
  unfold rollC at h ⊢
  split
  · rename_i hc; rw [if_pos hc] at h; exact point_kind (by decide) h
  · show (107 : UInt8) ≠ 0; decide
theorem command_kind {Y : Bs} {L : List Tok} (h : (commandC Y L).2 = true) : (commandC Y L).1.kind ≠ 0 := by
  unfold commandC at h ⊢
  by_cases y0 : Y = w_set
  · rw [if_pos y0] at h ⊢
    exact set_kind h
  rw [if_neg y0] at h ⊢
  by_cases y1 : Y = w_reset
  · rw [if_pos y1] at h ⊢
    by_cases ha : aloneW L w_all = true
    · rw [if_pos ha]; show (97 : UInt8) ≠ 0; decide
    · rw [if_neg ha]; show (114 : UInt8) ≠ 0; decide
  rw [if_neg y1] at h ⊢
  by_cases y2 : Y = w_discard
  · rw [if_pos y2] at h ⊢
    show (120 : UInt8) ≠ 0; decide
  rw [if_neg y2] at h ⊢
  by_cases y3 : Y = w_start
  · rw [if_pos y3] at h ⊢
    by_cases ha : aloneW L w_transaction = true
    · rw [if_pos ha]; show (98 : UInt8) ≠ 0; decide
    · rw [if_neg ha] at h; cases h
  rw [if_neg y3] at h ⊢
  by_cases y4 : Y = w_begin
  · rw [if_pos y4] at h ⊢
    show (98 : UInt8) ≠ 0; decide
  rw [if_neg y4] at h ⊢
  by_cases y5 : Y = w_end
  · rw [if_pos y5] at h ⊢
    show (99 : UInt8) ≠ 0; decide
  rw [if_neg y5] at h ⊢
  by_cases y6 : Y = w_commit
  · rw [if_pos y6] at h ⊢
    show (99 : UInt8) ≠ 0; decide
  rw [if_neg y6] at h ⊢
  by_cases y7 : Y = w_abort
  · rw [if_pos y7] at h ⊢
    exact roll_kind h
  rw [if_neg y7] at h ⊢
  by_cases y8 : Y = w_rollback
  · rw [if_pos y8] at h ⊢
    exact roll_kind h
  rw [if_neg y8] at h ⊢
  by_cases y9 : Y = w_savepoint
  · rw [if_pos y9] at h ⊢
    exact point_kind (by decide) h
  rw [if_neg y9] at h ⊢
  by_cases y10 : Y = w_release
  · rw [if_pos y10] at h ⊢
    exact point_kind (by decide) h
  rw [if_neg y10] at h ⊢
  by_cases y11 : Y = w_show
  · rw [if_pos y11] at h ⊢
    show (119 : UInt8) ≠ 0; decide
  rw [if_neg y11] at h ⊢
  cases h
theorem command_barred {Y : Bs} {L : List Tok} (h : barredB Y = false) : (commandC Y L).2 = false := by
  have f : ∀ W, W ∈ barredL → ¬ Y = W := fun W hW e => by
    have : barredB Y = true := List.any_eq_true.2 ⟨W, hW, by rw [e]; exact beq_self_eq_true _⟩
    rw [h] at this; cases this
  unfold commandC
  rw [if_neg (f _ (by decide)), if_neg (f _ (by decide)), if_neg (f _ (by decide)), if_neg (f _ (by decide)), if_neg (f _ (by decide)), if_neg (f _ (by decide)), if_neg (f _ (by decide)), if_neg (f _ (by decide)), if_neg (f _ (by decide)), if_neg (f _ (by decide)), if_neg (f _ (by decide)), if_neg (f _ (by decide))]
set_option maxRecDepth 100000 in
set_option maxHeartbeats 16000000 in
theorem rof_any (p : Option Addr) (T : List Tok) (n c : Nat) (w : World) (hT : T.length = n) (hn : n ≤ 100000) (hc : n ≤ c) (hc9 : c ≤ 9223372036854775807) (hA : TokW w p T) (hx : ∀ q ∈ T, q.text.length ≤ 2000) :
    Calls Tryd.prog 15 #[.slice p n c] w fun e w' => e = .returned (ofC T).val ∧ Below w.heap.size w w' := by
  cases T with
  | nil =>
    obtain rfl : n = 0 := hT.symm
    have HB := Lib.hid (show ∀ x0 x1 x2, Below w.heap.size w (w.alloc (.cells #[x0, x1, x2] 31)) from fun _ _ _ => (Below.refl _ _).alloc (Nat.le_refl _) _)
    clear hA hx
    go_enter Tryd.func15, Tryd.ntmps15
    go_wp2_with fail
    simp [bodyPost, results, Tryd.results15, go_sem]
    exact ⟨rfl, HB.out _ _ _⟩
  | cons t r =>
    obtain ⟨g, off, rfl, hg, hT'⟩ := hA.first
    obtain ⟨_, a0, a1, _⟩ := hT'.get (i := 0) rfl
    rw [Nat.zero_mul, Nat.add_zero] at a0 a1
    have hn1 : ((n : Int) == 0) = false := by rw [beq_eq_false_iff_ne, ← hT]; simp; omega
    have hn2 : (0 : Int) < n := by rw [← hT]; simp
    have hnc : (n : Int) ≤ c := by omega
    obtain ⟨W1, hW1⟩ : ∃ x, x = ((w.alloc (.cells #[.int .u8 0, .string { data := #[] }, .string { data := #[] }] 31)).alloc (.cells #[.string { data := #[115, 101, 116] }, .string { data := #[114, 101, 115, 101, 116] }, .string { data := #[100, 105, 115, 99, 97, 114, 100] }, .string { data := #[98, 101, 103, 105, 110] }, .string { data := #[115, 116, 97, 114, 116] }, .string { data := #[99, 111, 109, 109, 105, 116] }, .string { data := #[101, 110, 100] }, .string { data := #[114, 111, 108, 108, 98, 97, 99, 107] }, .string { data := #[97, 98, 111, 114, 116] }, .string { data := #[115, 97, 118, 101, 112, 111, 105, 110, 116] }, .string { data := #[114, 101, 108, 101, 97, 115, 101] }, .string { data := #[115, 104, 111, 119] }, .string { data := #[108, 105, 115, 116, 101, 110] }, .string { data := #[117, 110, 108, 105, 115, 116, 101, 110] }, .string { data := #[112, 114, 101, 112, 97, 114, 101] }, .string { data := #[101, 120, 101, 99, 117, 116, 101] }, .string { data := #[100, 101, 97, 108, 108, 111, 99, 97, 116, 101] }, .string { data := #[100, 101, 99, 108, 97, 114, 101] }, .string { data := #[108, 111, 97, 100] }, .string { data := #[99, 111, 112, 121] }] 9)) := ⟨_, rfl⟩
    have HE := Lib.hid hW1
    have hb1 : Below w.heap.size w W1 := by rw [hW1]; exact ((Below.refl _ w).alloc (Nat.le_refl _) _).alloc (by simp) _
    have hz1 : W1.heap.size = w.heap.size + 2 := by rw [hW1]; simp
    have HCM := Lib.hid (show CmdCell W1 w.heap.size from by
      rw [hW1]
      exact (((Below.refl _ _).alloc (Nat.le_refl _) _).block w.heap.size (by simp)).trans (heap_alloc_new w _))
    have HBQ := Lib.hid (show ∀ (k : Nat) (x : Bs), barredL[k]? = some x → W1.cell? ⟨w.heap.size + 1, k, none⟩ = some (.string ⟨x.toArray⟩) from fun k x hk => by
      have e : W1.heap[w.heap.size + 1]? = some (.cells #[.string { data := #[115, 101, 116] }, .string { data := #[114, 101, 115, 101, 116] }, .string { data := #[100, 105, 115, 99, 97, 114, 100] }, .string { data := #[98, 101, 103, 105, 110] }, .string { data := #[115, 116, 97, 114, 116] }, .string { data := #[99, 111, 109, 109, 105, 116] }, .string { data := #[101, 110, 100] }, .string { data := #[114, 111, 108, 108, 98, 97, 99, 107] }, .string { data := #[97, 98, 111, 114, 116] }, .string { data := #[115, 97, 118, 101, 112, 111, 105, 110, 116] }, .string { data := #[114, 101, 108, 101, 97, 115, 101] }, .string { data := #[115, 104, 111, 119] }, .string { data := #[108, 105, 115, 116, 101, 110] }, .string { data := #[117, 110, 108, 105, 115, 116, 101, 110] }, .string { data := #[112, 114, 101, 112, 97, 114, 101] }, .string { data := #[101, 120, 101, 99, 117, 116, 101] }, .string { data := #[100, 101, 97, 108, 108, 111, 99, 97, 116, 101] }, .string { data := #[100, 101, 99, 108, 97, 114, 101] }, .string { data := #[108, 111, 97, 100] }, .string { data := #[99, 111, 112, 121] }] 9 (0, 0)) := by
        rw [hW1]
        have := heap_alloc_new (w.alloc (.cells #[.int .u8 0, .string { data := #[] }, .string { data := #[] }] 31)) (.cells #[.string { data := #[115, 101, 116] }, .string { data := #[114, 101, 115, 101, 116] }, .string { data := #[100, 105, 115, 99, 97, 114, 100] }, .string { data := #[98, 101, 103, 105, 110] }, .string { data := #[115, 116, 97, 114, 116] }, .string { data := #[99, 111, 109, 109, 105, 116] }, .string { data := #[101, 110, 100] }, .string { data := #[114, 111, 108, 108, 98, 97, 99, 107] }, .string { data := #[97, 98, 111, 114, 116] }, .string { data := #[115, 97, 118, 101, 112, 111, 105, 110, 116] }, .string { data := #[114, 101, 108, 101, 97, 115, 101] }, .string { data := #[115, 104, 111, 119] }, .string { data := #[108, 105, 115, 116, 101, 110] }, .string { data := #[117, 110, 108, 105, 115, 116, 101, 110] }, .string { data := #[112, 114, 101, 112, 97, 114, 101] }, .string { data := #[101, 120, 101, 99, 117, 116, 101] }, .string { data := #[100, 101, 97, 108, 108, 111, 99, 97, 116, 101] }, .string { data := #[100, 101, 99, 108, 97, 114, 101] }, .string { data := #[108, 111, 97, 100] }, .string { data := #[99, 111, 112, 121] }] 9)
        rw [World.size_alloc] at this
        exact this
      rw [cell_of_row W1 (w.heap.size + 1) _ _ _ (0, 0) e]
      exact barredA_get k x hk)
    have HB1 := Lib.hid hb1
    have HZ1 := Lib.hid hz1
    have HTW := Lib.hid (hT'.step hb1)
    have HN := Lib.hid hT
    have HX := Lib.hid hx
    have HNN := Lib.hid (And.intro hn hc9)
    obtain ⟨XT, hXT⟩ : ∃ z : ByteArray, z = ⟨t.text.toArray⟩ := ⟨_, rfl⟩
    have HXL := Lib.hid (show XT.toList = t.text from by rw [hXT]; exact str_list _)
    have HXT := Lib.hid hXT
    rw [← hXT] at a1
    obtain ⟨tk, htk⟩ : ∃ z : Int, z = (t.kind.toNat : Nat) := ⟨_, rfl⟩
    rw [← htk] at a0
    have HTK := Lib.hid (show (t.kind == 119) = (tk == 119) from by rw [kind_bool, htk]; rfl)
    obtain ⟨C, hC⟩ : ∃ C, C = ofC (t :: r) := ⟨_, rfl⟩
    have HC := Lib.hid (show C = if tk == 119 then (if (commandC t.text r).2 then (commandC t.text r).1 else if barredB t.text then ⟨117, t.text, []⟩ else ⟨111, t.text, []⟩) else ⟨111, t.text, []⟩ from by rw [← HTK.out]; exact hC)
    rw [← hC]
    have a0' : W1.cell? ⟨g, off, none⟩ = some (.int .u8 tk) := (hb1.cell (p := ⟨g, off, none⟩) hg).trans a0
    have hgl : (g : Nat) < w.heap.size := hg
    have HA0 := Lib.hid a0'
    clear hx hb1 hz1 hT' hA hT hn hc9 hXT htk hC a0' hW1
    go_enter Tryd.func15, Tryd.ntmps15
    go_upto_region 5 with (fail)
    rw [← HE.out]
    clear a0 a1
    go_wp2_with fail
    go_loopw [5] (fun iv wr => ∃ k : Nat, iv = .int .i64 k ∧ k ≤ 20 ∧ W1 = wr ∧ (tk == 119 && barredB t.text) = (tk == 119 && (barredL.drop k).any (fun y => y == t.text))) (fun iv _ => 20 - (RowKit.intOf iv).toNat)
    case atStart => exact ⟨0, by go_num, Nat.zero_le _, rfl, rfl⟩
    case round =>
      obtain ⟨k, rfl, hk, rfl, ho⟩ := hrel
      have HO := Lib.hid ho
      have a0 := HA0.out
      clear ho
      by_cases hlt : k < 20
      · obtain ⟨x, hx⟩ : ∃ x, barredL[k]? = some x := ⟨_, List.getElem?_eq_getElem (by show k < 20; exact hlt)⟩
        have hI := HBQ.out k x hx
        have hlt' : (k : Int) < 20 := by omega
        obtain ⟨BT, hBT⟩ : ∃ z : ByteArray, z = ⟨x.toArray⟩ := ⟨_, rfl⟩
        have hBL : BT.toList = x := by rw [hBT]; exact str_list _
        rw [← hBT] at hI
        have HS := Lib.hid (barred_step t.text k x hx)
        have HX9 := Lib.hid hx
        clear hx hBT
        cases p1 : (tk == 119) with
        | false =>
          go_wp2_with fail
          go_roundw
          case measure => first | omega | (simp [RowKit.intOf]; omega)
          case rel => exact ⟨k + 1, by go_num, by omega, by first | rfl | trivial, by first | rfl | trivial⟩
        | true =>
          cases p2 : (x == t.text) with
          | false =>
            have p3 : (BT.toList == XT.toList) = false := by rw [hBL, HXL.out]; exact p2
            have HO2 := Lib.hid (show (true && barredB t.text) = (true && (barredL.drop (k + 1)).any (fun y => y == t.text)) from by have h := HO.out; rw [p1] at h; rw [h, HS.out, p2, Bool.false_or])
            clear hBL p2
            go_wp2_with fail
            go_roundw
            case measure => first | omega | (simp [RowKit.intOf]; omega)
            case rel => exact ⟨k + 1, by go_num, by omega, by first | rfl | trivial, HO2.out⟩
          | true =>
            have p3 : (BT.toList == XT.toList) = true := by rw [hBL, HXL.out]; exact p2
            have HBB := Lib.hid (show barredB t.text = true from by
              have := HO.out
              rw [HS.out, p2, p1] at this
              simpa using this)
            clear hBL p2
            have HC2 := Lib.hid (show C = if (commandC t.text r).2 then (commandC t.text r).1 else ⟨117, t.text, []⟩ from by rw [HC.out, if_pos p1, if_pos HBB.out])
            have hgW : g < W1.heap.size := by rw [HZ1.out]; omega
            have HP := Lib.hid (show ∀ a', (1 < n → a' = some ⟨g, off + 4, none⟩) → RestAt (W1.alloc (.cells #[.slice a' (n - 1) (c - 1)] 70)) W1.heap.size r from fun a' ha => by
              have hr : r.length = n - 1 := by rw [← HN.out]; rfl
              have hb := (Below.refl W1.heap.size W1).alloc (Nat.le_refl _) (Obj.cells #[.slice a' (n - 1) (c - 1)] 70)
              have h9 := HNN.out
              refine ⟨a', c - 1, ?_, by omega, by omega, by omega, ?_, fun q hq => HX.out q (List.mem_cons_of_mem _ hq)⟩
              · rw [hr]; exact heap_alloc_new W1 _
              · by_cases h1 : 1 < n
                · have e := ha h1
                  subst e
                  exact (HTW.out.drop 1).step hb
                · exact .inl (List.length_eq_zero_iff.1 (by omega)))
            have HKN := Lib.hid (fun a' ha => rknown_any W1.heap.size XT t.text r (W1.alloc (.cells #[.slice a' (n - 1) (c - 1)] 70)) HXL.out (HP.out a' ha))
            have HTF := Lib.hid (show ∀ a' w3, TurnedR (W1.alloc (.cells #[.slice a' (n - 1) (c - 1)] 70)) w3 W1.heap.size → CmdCell w3 w.heap.size ∧ Below w.heap.size w w3 from fun a' w3 hT3 => by
              have hs : w.heap.size < W1.heap.size := by rw [HZ1.out]; omega
              refine ⟨(hT3.block w.heap.size (by rw [World.size_alloc]; omega) (by omega)).trans ((((Below.refl W1.heap.size W1).alloc (Nat.le_refl _) _).block w.heap.size hs).trans HCM.out), ?_⟩
              exact HB1.out.trans (((Below.refl w.heap.size W1).alloc (by omega) _).trans (hT3.from (by rw [World.size_alloc]; omega) (by omega)))
              )
            cases hcm : (commandC t.text r).2 with
            | true =>
              have hck := command_kind hcm
              have hC1 : C = (commandC t.text r).1 := by rw [HC2.out, if_pos hcm]
              have hC3 : orNone (commandC t.text r) = C := by rw [hC1]; unfold orNone; rw [if_pos hcm]
              rw [← hC1] at hck
              obtain ⟨ck, cn, cv⟩ := C
              have HX3 := Lib.hid (show ∀ a' (ha : 1 < n → a' = some ⟨g, off + 4, none⟩), Calls Tryd.prog 28 #[.string XT, .pointer (some ⟨W1.heap.size, 0, none⟩)] (W1.alloc (.cells #[.slice a' (n - 1) (c - 1)] 70)) (fun e w' => e = .returned (.agg #[.int .u8 (ck.toNat : Nat), .string ⟨cn.toArray⟩, .string ⟨cv.toArray⟩]) ∧ TurnedR (W1.alloc (.cells #[.slice a' (n - 1) (c - 1)] 70)) w' W1.heap.size) from fun a' ha => by
                have h1 := HKN.out a' ha
                rw [hC3] at h1
                exact h1)
              obtain ⟨kz, hkz⟩ : ∃ z : Int, z = (ck.toNat : Nat) := ⟨_, rfl⟩
              have p5 : (kz == 0) = false := by
                rw [hkz, beq_eq_false_iff_ne]
                intro e
                exact hck (UInt8.toNat_inj.1 (by show ck.toNat = 0; omega))
              rw [← hkz] at HX3
              have HKZ := Lib.hid hkz
              clear hcm hck hC1 hC3 hkz HC2 HC
              by_cases hd : c = 1
              · have hd1 : n = 1 := by omega
                subst hd hd1
                go_wp2_with fail
                refine (HX3.out _ (fun h => by first | rfl | (exact absurd h (by omega)))).mono ?_; rintro e w3 ⟨rfl, hT3⟩
                obtain ⟨hcc, hB3⟩ := HTF.out _ _ hT3
                have HB3 := Lib.hid hB3
                obtain ⟨⟨k0, k1, k2⟩, ⟨f0, f1, f2⟩⟩ := hcc.cell
                have hlt3 : w.heap.size < w3.heap.size := (Array.getElem?_eq_some_iff.1 hcc).1
                clear hcc hB3 hT3
                go_wp2_with fail
                simp [bodyPost, results, Tryd.results15, go_sem, k0, k1, k2, hlt3]
                refine ⟨by first | (rw [HKZ.out]; rfl) | (rw [HCN.out, HXT.out]; rfl) | rfl, ?_⟩
                first
                  | exact ((((HB3.out.setCell (Nat.le_refl _) _).setCell (Nat.le_refl _) _).setCell (Nat.le_refl _) _).alloc (by simp; omega) _)
                  | exact (((HB3.out.alloc (by omega) _).setCell (Nat.le_refl _) _).setCell (Nat.le_refl _) _).setCell (Nat.le_refl _) _
                  | exact ((((((HB3.out.alloc (by omega) _).setCell (by simp; omega) _).setCell (by simp; omega) _).setCell (by simp; omega) _).setCell (Nat.le_refl _) _).setCell (Nat.le_refl _) _).setCell (Nat.le_refl _) _
              · have hd2 : ¬ c - 1 = 0 := by omega
                go_wp2_with fail
                refine (HX3.out _ (fun h => by first | rfl | (exact absurd h (by omega)))).mono ?_; rintro e w3 ⟨rfl, hT3⟩
                obtain ⟨hcc, hB3⟩ := HTF.out _ _ hT3
                have HB3 := Lib.hid hB3
                obtain ⟨⟨k0, k1, k2⟩, ⟨f0, f1, f2⟩⟩ := hcc.cell
                have hlt3 : w.heap.size < w3.heap.size := (Array.getElem?_eq_some_iff.1 hcc).1
                clear hcc hB3 hT3
                go_wp2_with fail
                simp [bodyPost, results, Tryd.results15, go_sem, k0, k1, k2, hlt3]
                refine ⟨by first | (rw [HKZ.out]; rfl) | (rw [HCN.out, HXT.out]; rfl) | rfl, ?_⟩
                first
                  | exact ((((HB3.out.setCell (Nat.le_refl _) _).setCell (Nat.le_refl _) _).setCell (Nat.le_refl _) _).alloc (by simp; omega) _)
                  | exact (((HB3.out.alloc (by omega) _).setCell (Nat.le_refl _) _).setCell (Nat.le_refl _) _).setCell (Nat.le_refl _) _
                  | exact ((((((HB3.out.alloc (by omega) _).setCell (by simp; omega) _).setCell (by simp; omega) _).setCell (by simp; omega) _).setCell (Nat.le_refl _) _).setCell (Nat.le_refl _) _).setCell (Nat.le_refl _) _
            | false =>
              have HCN := Lib.hid (show C = ⟨117, t.text, []⟩ from by rw [HC2.out, if_neg (by rw [hcm]; decide)])
              have hC3 : orNone (commandC t.text r) = noCmd := by unfold orNone; rw [if_neg (by rw [hcm]; decide)]
              have HX3 := Lib.hid (show ∀ a' (ha : 1 < n → a' = some ⟨g, off + 4, none⟩), Calls Tryd.prog 28 #[.string XT, .pointer (some ⟨W1.heap.size, 0, none⟩)] (W1.alloc (.cells #[.slice a' (n - 1) (c - 1)] 70)) (fun e w' => e = .returned (.agg #[.int .u8 0, .string { data := #[] }, .string { data := #[] }]) ∧ TurnedR (W1.alloc (.cells #[.slice a' (n - 1) (c - 1)] 70)) w' W1.heap.size) from fun a' ha => by
                have h1 := HKN.out a' ha
                rw [hC3] at h1
                exact h1)
              clear hcm hC3 HC2 HC
              by_cases hd : c = 1
              · have hd1 : n = 1 := by omega
                subst hd hd1
                go_wp2_with fail
                refine (HX3.out _ (fun h => by first | rfl | (exact absurd h (by omega)))).mono ?_; rintro e w3 ⟨rfl, hT3⟩
                obtain ⟨hcc, hB3⟩ := HTF.out _ _ hT3
                have HB3 := Lib.hid hB3
                obtain ⟨⟨k0, k1, k2⟩, ⟨f0, f1, f2⟩⟩ := hcc.cell
                have hlt3 : w.heap.size < w3.heap.size := (Array.getElem?_eq_some_iff.1 hcc).1
                clear hcc hB3 hT3
                go_wp2_with fail
                simp [bodyPost, results, Tryd.results15, go_sem, k0, k1, k2, hlt3]
                refine ⟨by first | (rw [HKZ.out]; rfl) | (rw [HCN.out, HXT.out]; rfl) | rfl, ?_⟩
                first
                  | exact ((((HB3.out.setCell (Nat.le_refl _) _).setCell (Nat.le_refl _) _).setCell (Nat.le_refl _) _).alloc (by simp; omega) _)
                  | exact (((HB3.out.alloc (by omega) _).setCell (Nat.le_refl _) _).setCell (Nat.le_refl _) _).setCell (Nat.le_refl _) _
                  | exact ((((((HB3.out.alloc (by omega) _).setCell (by simp; omega) _).setCell (by simp; omega) _).setCell (by simp; omega) _).setCell (Nat.le_refl _) _).setCell (Nat.le_refl _) _).setCell (Nat.le_refl _) _
              · have hd2 : ¬ c - 1 = 0 := by omega
                go_wp2_with fail
                refine (HX3.out _ (fun h => by first | rfl | (exact absurd h (by omega)))).mono ?_; rintro e w3 ⟨rfl, hT3⟩
                obtain ⟨hcc, hB3⟩ := HTF.out _ _ hT3
                have HB3 := Lib.hid hB3
                obtain ⟨⟨k0, k1, k2⟩, ⟨f0, f1, f2⟩⟩ := hcc.cell
                have hlt3 : w.heap.size < w3.heap.size := (Array.getElem?_eq_some_iff.1 hcc).1
                clear hcc hB3 hT3
                go_wp2_with fail
                simp [bodyPost, results, Tryd.results15, go_sem, k0, k1, k2, hlt3]
                refine ⟨by first | (rw [HKZ.out]; rfl) | (rw [HCN.out, HXT.out]; rfl) | rfl, ?_⟩
                first
                  | exact ((((HB3.out.setCell (Nat.le_refl _) _).setCell (Nat.le_refl _) _).setCell (Nat.le_refl _) _).alloc (by simp; omega) _)
                  | exact (((HB3.out.alloc (by omega) _).setCell (Nat.le_refl _) _).setCell (Nat.le_refl _) _).setCell (Nat.le_refl _) _
                  | exact ((((((HB3.out.alloc (by omega) _).setCell (by simp; omega) _).setCell (by simp; omega) _).setCell (by simp; omega) _).setCell (Nat.le_refl _) _).setCell (Nat.le_refl _) _).setCell (Nat.le_refl _) _
      · obtain rfl : k = 20 := by omega
        have HCN := Lib.hid (show C = ⟨111, t.text, []⟩ from by
          rw [HC.out]
          cases p1 : (tk == 119) with
          | false => rfl
          | true =>
            have hb := HO.out
            rw [p1, Bool.true_and, Bool.true_and] at hb
            rw [if_pos rfl, command_barred hb, hb]; rfl)
        obtain ⟨⟨k0, k1, k2⟩, ⟨f0, f1, f2⟩⟩ := HCM.out.cell
        have hlt : w.heap.size < W1.heap.size := by rw [HZ1.out]; omega
        go_wp2_with fail
        simp [bodyPost, results, Tryd.results15, go_sem, k0, k1, k2]
        refine ⟨by rw [HCN.out, HXT.out]; rfl, ?_⟩
        exact ((HB1.out.setCell (Nat.le_refl _) _).setCell (Nat.le_refl _) _).setCell (Nat.le_refl _) _
end Go.Proofs.YtgopajddloeclaaDoor

namespace Go.Proofs.YtgopajddloeclaaDoor
open Go.RowKit Go.Lib Go.WideShapes

/-- Tokens with their places, any numbers. -/
abbrev Tk := Tok × Int × Int
def tkC : List Tk → List Value
  | [] => []
  | t :: r => .int .u8 (t.1.kind.toNat : Nat) :: .string ⟨t.1.text.toArray⟩ :: .int .i64 t.2.1 :: .int .i64 t.2.2 :: tkC r
theorem tkC_snoc (l : List Tk) (t : Tk) : tkC (l ++ [t]) = tkC l ++ [.int .u8 (t.1.kind.toNat : Nat), .string ⟨t.1.text.toArray⟩, .int .i64 t.2.1, .int .i64 t.2.2] := by
  induction l with
  | nil => rfl
  | cons a l ih => rw [List.cons_append, tkC, ih]; rfl
theorem tkC_length (l : List Tk) : (tkC l).length = l.length * 4 := by
  induction l with
  | nil => rfl
  | cons a l ih => rw [tkC]; simp only [List.length_cons, ih]; omega
theorem tkC_at : ∀ (l : List Tk) (i : Nat) (t : Tk), l[i]? = some t → (tkC l)[i * 4]? = some (.int .u8 (t.1.kind.toNat : Nat)) ∧ (tkC l)[i * 4 + 1]? = some (.string ⟨t.1.text.toArray⟩) ∧ (tkC l)[i * 4 + 2]? = some (.int .i64 t.2.1) ∧ (tkC l)[i * 4 + 3]? = some (.int .i64 t.2.2) := by
  intro l
  induction l with
  | nil => intro i t h; simp at h
  | cons a l ih =>
    intro i t h
    cases i with
    | zero =>
      obtain rfl : a = t := Option.some.inj h
      exact ⟨rfl, rfl, rfl, rfl⟩
    | succ i =>
      obtain ⟨h0, h1, h2, h3⟩ := ih i t h
      rw [show (i + 1) * 4 = i * 4 + 1 + 1 + 1 + 1 by omega]
      exact ⟨h0, h1, h2, h3⟩

theorem own_tokw {w : World} {B n : Nat} {v : Value} {R : List Tk} (h : w.ownsRow B 66 4 v n (tkC R)) (hl : R.length = n) : ∃ p c, v = .slice p n c ∧ n ≤ c ∧ c ≤ 9223372036854775807 ∧ TokW w p (R.map (·.1)) := by
  rcases h.2 with ⟨rfl, h0⟩ | ⟨g, cap, cur, rfl, hb, hg, hn, hc, hcs, ht⟩
  · subst h0
    obtain rfl := List.length_eq_zero_iff.1 hl
    exact ⟨none, 0, rfl, Nat.le_refl _, by decide, .inl rfl⟩
  · refine ⟨some ⟨g, 0, none⟩, cap, rfl, by omega, by have := hc; simp only [maxLen] at this; omega, ?_⟩
    by_cases h0 : R = []
    · subst h0; exact .inl rfl
    refine .inr ⟨g, 0, rfl, (h.lt g rfl).2, fun i q hq => ?_⟩
    rw [List.getElem?_map] at hq
    cases hr : R[i]? with
    | none => rw [hr] at hq; cases hq
    | some t =>
      rw [hr] at hq
      obtain rfl : t.1 = q := Option.some.inj hq
      obtain ⟨a0, a1, a2, a3⟩ := tkC_at R i t hr
      have hi : i < n := by rw [← hl]; exact (List.getElem?_eq_some_iff.1 hr).1
      rw [Nat.zero_add]
      refine ⟨(h.cellAt (i * 4) (by omega)).trans a0, (h.cellAt (i * 4 + 1) (by omega)).trans a1, t.2.1, t.2.2, (h.cellAt (i * 4 + 2) (by omega)).trans a2, (h.cellAt (i * 4 + 3) (by omega)).trans a3⟩

theorem info_reftoken : (Tryd.prog.info? 66).map (fun i => (i.zero, i.size, i.bytes)) = some (some (.agg #[.int .u8 0, .string { data := #[] }, .int .i64 0, .int .i64 0]), 4, 40) := by kernel_rfl

set_option maxRecDepth 100000 in
set_option maxHeartbeats 8000000 in
theorem asall9_any (p : Option Addr) (T : List Tok) (n c : Nat) (w : World) (hT : T.length = n) (hn : n ≤ 1000) (hA : TokW w p T) :
    Calls Tryd.prog 16 #[.slice p n c] w fun e w' => Below w.heap.size w w' ∧ ∃ p' c', e = .returned (.slice p' n c') ∧ n ≤ c' ∧ c' ≤ 9223372036854775807 ∧ TokW w' p' T := by
  obtain ⟨i0, hi, y0, y1, y2⟩ := info_parts info_reftoken
  have HT := Lib.hid hT; have HA := Lib.hid hA
  clear hT hA
  go_enter Tryd.func16, Tryd.ntmps16
  go_wp2_with fail
  go_loopw [3, 4] (fun o i wr => ∃ (k : Nat) (R : List Tk), k ≤ n ∧ i = .int .i64 k ∧ R.map (·.1) = T.take k ∧ wr.ownsRow w.heap.size 66 4 o k (tkC R) ∧ Below w.heap.size w wr) (fun _ i _ => n - (RowKit.intOf i).toNat)
  case atStart => exact ⟨0, [], Nat.zero_le _, rfl, rfl, World.ownsRow_nil _ _ _ _, Below.refl _ _⟩
  case round =>
    obtain ⟨k, R, hk, rfl, hR, hO, hB⟩ := hrel
    have HO := Lib.hid hO; have HB := Lib.hid hB; have HR := Lib.hid hR
    obtain ⟨oa, oc, rfl⟩ := ownsRow_form hO
    clear hR
    by_cases hlt : k < n
    · have hlt' : (k : Int) < n := by omega
      obtain ⟨t, ht⟩ : ∃ t, T[k]? = some t := ⟨_, List.getElem?_eq_getElem (by rw [HT.out]; exact hlt)⟩
      obtain ⟨g, off, rfl, hg⟩ : ∃ g off, p = some ⟨g, off, none⟩ ∧ g < w.heap.size := by
        rcases HA.out with h | ⟨g, off, hp, hg, _⟩
        · rw [h] at ht; cases ht
        · exact ⟨g, off, hp, hg⟩
      obtain ⟨_, a0, a1, lo, hi', a2, a3⟩ := HA.out.get ht
      have a0 := (hB.cell (p := ⟨g, off + k * 4, none⟩) hg).trans a0
      have a1 := (hB.cell (p := ⟨g, off + k * 4 + 1, none⟩) hg).trans a1
      have a2 := (hB.cell (p := ⟨g, off + k * 4 + 2, none⟩) hg).trans a2
      have a3 := (hB.cell (p := ⟨g, off + k * 4 + 3, none⟩) hg).trans a3
      have HTK := Lib.hid (show (R ++ [((t, lo, hi') : Tk)]).map (·.1) = T.take (k + 1) by rw [List.map_append, HR.out, List.take_add_one, ht]; rfl)
      have HTC := Lib.hid (tkC_snoc R (t, lo, hi'))
      obtain ⟨kk, hkk⟩ : ∃ kk : Nat, kk = t.kind.toNat := ⟨_, rfl⟩
      obtain ⟨XT, hXT⟩ : ∃ XT : ByteArray, XT = ⟨t.text.toArray⟩ := ⟨_, rfl⟩
      simp only [← hkk, ← hXT] at a0 a1 HTC
      have hzz := hB.size
      clear hB hO ht hkk hXT
      go_wp2_with fail
      go_region_law (refine step_append_own rfl (.tmp 11) (.tmp 33) 39 rfl w.heap.size 66 i0 (.agg #[.int .u8 0, .string { data := #[] }, .int .i64 0, .int .i64 0]) 4 40 Tryd.underlying39 hi y0 y1 y2 rfl (by decide) (.slice oa k oc) k (tkC R) (by simp [Act.eval]) (HO.out.drew.alloc _) ⟨wr.heap.size, 0, none⟩ 1 1 [.int .u8 kk, .string XT, .int .i64 lo, .int .i64 hi'] (by simp [Act.eval]) rfl ?c1 ?c2 ?c3 ?c4 ?c5 ?_; (case c1 => (intro j u h; rw [Go.WideShapes.add_plain, Nat.zero_add, ← h]; exact (World.cell?_alloc_new wr _ _ j).trans (by simp))); (case c2 => (intro u hu; simp at hu; rcases hu with rfl | rfl | rfl | rfl <;> rfl)); (case c3 => (unfold maxLen; omega)); (case c4 => omega); (case c5 => (first | omega | (simp; omega))); intro v' w5 hO5 hg5)
      all_goals
        have hB5 : Below w.heap.size w w5 := below_grown (HB.out.alloc hzz _).drew (by simp; omega) hg5 (fun k hk => (HO.out.lt k hk).1)
        have HO5 : Hid (w5.ownsRow w.heap.size 66 4 v' (k + 1) (tkC (R ++ [((t, lo, hi') : Tk)]))) := by rw [HTC.out]; exact Lib.hid hO5
        have HB5 := Lib.hid hB5
        clear hO5 hg5 hB5
        go_wp2_with fail
        go_roundw
        case rel => exact ⟨k + 1, _, by omega, by go_num, HTK.out, HO5.out, HB5.out⟩
        case measure => simp [RowKit.intOf]; omega
    · obtain rfl : k = n := by omega
      have hl : R.length = k := by have := congrArg List.length HR.out; rw [List.length_map, List.length_take, HT.out] at this; omega
      obtain ⟨p', c', he, hnc, hc9, hw⟩ := own_tokw HO.out hl
      rw [HR.out, List.take_of_length_le (by rw [HT.out]; exact Nat.le_refl _)] at hw
      simp only [Value.slice.injEq] at he
      obtain ⟨rfl, _, rfl⟩ := he
      have HW := Lib.hid hw
      have HCC := Lib.hid (And.intro hnc hc9)
      clear hw hB hl hnc hc9
      go_wp2_with fail
      go_ret
      exact ⟨HB.out, _, _, rfl, HCC.out.1, HCC.out.2, HW.out⟩
end Go.Proofs.YtgopajddloeclaaDoor

namespace Go.Proofs.YtgopajddloeclaaDoor
open Go.RowKit Go.Lib Go.WideShapes

set_option maxRecDepth 100000 in
set_option maxHeartbeats 4000000 in
theorem as9_any (k : Int) (x y : ByteArray) (w : World) :
    Calls Tryd.prog 13 #[.agg #[.int .u8 k, .string x, .string y]] w fun e w' => e = .returned (.agg #[.int .u8 k, .string x, .string y]) ∧ Below w.heap.size w w' := by
  have HB := Lib.hid (show ∀ (a : Obj) (x0 x1 x2 : Value), Below w.heap.size w ((w.alloc a).alloc (.cells #[x0, x1, x2] 31)) from fun _ _ _ _ => ((Below.refl _ _).alloc (Nat.le_refl _) _).alloc (by simp) _)
  go_enter Tryd.func13, Tryd.ntmps13
  go_wp2_with fail
  simp [bodyPost, results, Tryd.results13, go_sem]
  exact HB.out _ _ _ _
end Go.Proofs.YtgopajddloeclaaDoor
