/- The document's Quote. -/
import Derived.Test.YtalnflfafapicaaDoorDoubled
import Derived.Test.YtalnflfafapicaaDoorFold
import Derived.Test.YtalnflfafapicaaDoorNPart
import Derived.Deep.DeepAppendWide
namespace Go.Proofs.YtalnflfafapicaaDoor
open Go.RowKit Go.Lib Go.WideShapes

theorem doubled_snoc (c : UInt8) : ∀ (A : Bs) (b : UInt8), doubled c (A ++ [b]) = doubled c A ++ (if b = c then [c, c] else [b]) := by
  intro A
  induction A with
  | nil => intro b; rw [List.nil_append, doubled, doubled]; split <;> rfl
  | cons x A ih =>
    intro b
    rw [List.cons_append, doubled, ih, doubled]
    split <;> simp
/-- What was written ahead of byte k. -/
def quoteTo (c : UInt8) (l : Bs) (k : Nat) : Bs := c :: doubled c (l.take k)
theorem doubled_most (c : UInt8) : ∀ l : Bs, (doubled c l).length ≤ 2 * l.length := by
  intro l
  induction l with
  | nil => simp [doubled]
  | cons b r ih => rw [doubled]; split <;> simp <;> omega
theorem quoteTo_length (c : UInt8) (l : Bs) (k : Nat) : (quoteTo c l k).length ≤ 2 * l.length + 1 := by
  unfold quoteTo
  have := doubled_most c (l.take k)
  have h2 : (l.take k).length ≤ l.length := by rw [List.length_take]; omega
  rw [List.length_cons]; omega
theorem quoteTo_step (c : UInt8) (l : Bs) (k : Nat) (b : UInt8) (h : l[k]? = some b) : quoteTo c l (k + 1) = quoteTo c l k ++ (if b = c then [c, c] else [b]) := by
  unfold quoteTo
  rw [List.take_add_one, h]
  show c :: doubled c (l.take k ++ [b]) = _
  rw [doubled_snoc]; rfl

theorem row_text {w : World} {B : Nat} {v : Value} {l : Bs} (h : w.ownsRow B 5 1 v l.length (byteC l)) : (convert 50 9 v).run Tryd.prog w = .ok (.string ⟨l.toArray⟩) w := by
  rcases h.2 with ⟨rfl, h0⟩ | ⟨g, cap, cur, rfl, hb, hg, hn, hc, hcs, ht⟩
  · rw [List.eq_nil_of_length_eq_zero h0]
    exact run_convert_nil_bytes w _ _ _ 0 Tryd.underlying50 Tryd.underlying5 Tryd.underlying9
  · refine run_convert_bytes_back w _ _ _ ⟨g, 0, none⟩ cap l Tryd.underlying50 Tryd.underlying5 Tryd.underlying9 fun k hk => ?_
    rw [add_plain, Nat.zero_add]
    refine (h.cellAt k (by rw [Nat.mul_one]; exact hk)).trans ?_
    simp [byteC, List.getElem?_eq_getElem hk]

set_option maxHeartbeats 4000000 in
theorem refquote_any (c : UInt8) (s : ByteArray) (w : World) (hs : s.size ≤ 2000) :
    Calls Tryd.prog 18 #[.string s, .int .u8 (c.toNat : Nat)] w fun e w' => e = .returned (.string ⟨(quoted c (bytes s)).toArray⟩) ∧ Below w.heap.size w w' := by
  obtain ⟨i0, hi0, y0, y1, y2⟩ := info_parts Tryd.info5
  obtain ⟨R, hR⟩ : ∃ R, R = quoted c (bytes s) := ⟨_, rfl⟩
  rw [← hR]
  have HRQ := Lib.hid hR
  clear hR
  have HO0 := Lib.hid (show (w.alloc (Obj.cells #[.int .u8 (c.toNat : Nat)] 5)).ownsRow w.heap.size 5 1 (.slice (some ⟨w.heap.size, 0, none⟩) 1 1) 1 (byteC (quoteTo c (bytes s) 0)) from World.ownsRow_lit w _ 1 (Nat.le_refl _) (by decide) rfl)
  have HB0 := Lib.hid ((Below.refl _ w).alloc (Nat.le_refl _) (Obj.cells #[.int .u8 (c.toNat : Nat)] 5))
  have hc8 : c.toNat < 256 := c.toNat_lt
  go_enter Tryd.func18, Tryd.ntmps18
  go_wp2_with fail
  generalize w.alloc (Obj.cells #[.int .u8 (c.toNat : Nat)] 5) = w0 at HO0 HB0 ⊢
  go_loopw [5, 6] (fun v i wr => ∃ k n : Nat, k ≤ s.size ∧ i = .int .i64 k ∧ Below w.heap.size w wr ∧ n = (quoteTo c (bytes s) k).length ∧ wr.ownsRow w.heap.size 5 1 v n (byteC (quoteTo c (bytes s) k))) (fun _ i _ => s.size - (RowKit.intOf i).toNat)
  case atStart => exact ⟨0, 1, Nat.zero_le _, rfl, HB0.out, rfl, HO0.out⟩
  case round =>
    obtain ⟨k, n, hk, rfl, hB, hn, hO⟩ := hrel
    have HB := Lib.hid hB; have HO := Lib.hid hO
    obtain ⟨va, vc, rfl⟩ := ownsRow_form hO
    have hzz := hB.size
    have hnl : n ≤ 4001 := by rw [hn]; have := quoteTo_length c (bytes s) k; rw [bytes_len] at this; omega
    have HN := Lib.hid hn
    clear hB hO hn HB0 HO0
    by_cases hlt : k < s.size
    · have hlt' : (k : Int) < s.size := by omega
      have HST := Lib.hid (quoteTo_step c (bytes s) k s[k] (by rw [List.getElem?_eq_getElem (by rw [bytes_len]; exact hlt), bytes_get]))
      obtain ⟨L, hL⟩ : ∃ L, L = quoteTo c (bytes s) k := ⟨_, rfl⟩
      rw [← hL] at HO HN HST
      clear hL
      by_cases hb : s[k] = c
      · have hb2 : ((s[k].toNat : Int) == c.toNat) = true := by rw [hb]; simp
        have HLN := Lib.hid (show quoteTo c (bytes s) (k + 1) = L ++ [c] ++ [s[k]] by rw [HST.out, if_pos hb, hb]; simp)
        clear hb HST
        go_wp2_with (at_builtin; first
          | (refine wpList_append_own_wide _ rfl (.tmp 20) (.tmp 22) 50 rfl w.heap.size 5 i0 (.int .u8 0) 1 1 Tryd.underlying50 hi0 y0 y1 y2 rfl (by decide) (.slice va n vc) n (byteC L) rfl (HO.out.alloc _) ⟨wr.heap.size, 0, none⟩ 1 1 [.int .u8 (c.toNat : Nat)] rfl rfl (fun j u h => by rw [add_plain, Nat.zero_add, ← h]; exact (World.cell?_alloc_new _ _ _ j).trans (by simp)) (fun u hu => by simp at hu; subst hu; rfl) (by unfold maxLen; omega) (by omega) (by first | omega | (rw [World.size_alloc]; omega)) ?_))
        intro v2 w2 hO2 hg2 _
        have HB2 := Lib.hid (below_grown (HB.out.alloc hzz (Obj.cells #[.int .u8 (c.toNat : Nat)] 5)) (by simp; omega) hg2 (fun q hq => (HO.out.lt q hq).1))
        have HO2 := Lib.hid (show w2.ownsRow w.heap.size 5 1 v2 (n + 1) (byteC (L ++ [c])) by rw [byteC_snoc]; exact hO2)
        obtain ⟨va2, vc2, rfl⟩ := ownsRow_form hO2
        have hz2 := HB2.out.size
        clear hO2 hg2
        go_wp2_with (at_builtin; first
          | (refine wpList_append_own_wide _ rfl (.tmp 24) (.tmp 28) 50 rfl w.heap.size 5 i0 (.int .u8 0) 1 1 Tryd.underlying50 hi0 y0 y1 y2 rfl (by decide) (.slice va2 (n + 1) vc2) (n + 1) (byteC (L ++ [c])) rfl (HO2.out.alloc _) ⟨w2.heap.size, 0, none⟩ 1 1 [.int .u8 (s[k].toNat : Nat)] rfl rfl (fun j u h => by rw [add_plain, Nat.zero_add, ← h]; exact (World.cell?_alloc_new _ _ _ j).trans (by simp)) (fun u hu => by simp at hu; subst hu; rfl) (by unfold maxLen; omega) (by omega) (by first | omega | (rw [World.size_alloc]; omega)) ?_))
        intro v3 w3 hO3 hg3 _
        have HB3 := Lib.hid (below_grown (HB2.out.alloc hz2 (Obj.cells #[.int .u8 (s[k].toNat : Nat)] 5)) (by simp; omega) hg3 (fun q hq => (HO2.out.lt q hq).1))
        have HO3 := Lib.hid (show w3.ownsRow w.heap.size 5 1 v3 (n + 1 + 1) (byteC (quoteTo c (bytes s) (k + 1))) by rw [HLN.out, byteC_snoc]; exact hO3)
        have HN3 := Lib.hid (show n + 1 + 1 = (quoteTo c (bytes s) (k + 1)).length by rw [HLN.out, HN.out]; simp)
        clear hO3 hg3
        go_wp2_with fail
        go_roundw
        case rel => exact ⟨k + 1, n + 1 + 1, by omega, by go_num, HB3.out, HN3.out, HO3.out⟩
        case measure => simp [RowKit.intOf]; omega
      · have hb2 : ((s[k].toNat : Int) == c.toNat) = false := by
          rw [beq_eq_false_iff_ne]; intro e; exact hb (UInt8.toNat_inj.1 (by omega))
        have HLN := Lib.hid (show quoteTo c (bytes s) (k + 1) = L ++ [s[k]] by rw [HST.out, if_neg hb])
        clear hb HST
        go_wp2_with (at_builtin; first
          | (refine wpList_append_own_wide _ rfl (.tmp 24) (.tmp 28) 50 rfl w.heap.size 5 i0 (.int .u8 0) 1 1 Tryd.underlying50 hi0 y0 y1 y2 rfl (by decide) (.slice va n vc) n (byteC L) rfl (HO.out.alloc _) ⟨wr.heap.size, 0, none⟩ 1 1 [.int .u8 (s[k].toNat : Nat)] rfl rfl (fun j u h => by rw [add_plain, Nat.zero_add, ← h]; exact (World.cell?_alloc_new _ _ _ j).trans (by simp)) (fun u hu => by simp at hu; subst hu; rfl) (by unfold maxLen; omega) (by omega) (by first | omega | (rw [World.size_alloc]; omega)) ?_))
        intro v3 w3 hO3 hg3 _
        have HB3 := Lib.hid (below_grown (HB.out.alloc hzz (Obj.cells #[.int .u8 (s[k].toNat : Nat)] 5)) (by simp; omega) hg3 (fun q hq => (HO.out.lt q hq).1))
        have HO3 := Lib.hid (show w3.ownsRow w.heap.size 5 1 v3 (n + 1) (byteC (quoteTo c (bytes s) (k + 1))) by rw [HLN.out, byteC_snoc]; exact hO3)
        have HN3 := Lib.hid (show n + 1 = (quoteTo c (bytes s) (k + 1)).length by rw [HLN.out, HN.out]; simp)
        clear hO3 hg3
        go_wp2_with fail
        go_roundw
        case rel => exact ⟨k + 1, n + 1, by omega, by go_num, HB3.out, HN3.out, HO3.out⟩
        case measure => simp [RowKit.intOf]; omega
    · obtain rfl : k = s.size := by omega
      obtain ⟨L, hL⟩ : ∃ L, L = quoteTo c (bytes s) s.size := ⟨_, rfl⟩
      have HQ := Lib.hid (show L ++ [c] = R by rw [hL, HRQ.out]; unfold quoteTo quoted; rw [List.take_of_length_le (by rw [bytes_len]; exact Nat.le_refl _)]; rfl)
      rw [← hL] at HO HN
      clear hL
      go_wp2_with (at_builtin; first
          | (refine wpList_append_own_wide _ rfl (.tmp 30) (.tmp 32) 50 rfl w.heap.size 5 i0 (.int .u8 0) 1 1 Tryd.underlying50 hi0 y0 y1 y2 rfl (by decide) (.slice va n vc) n (byteC L) rfl (HO.out.alloc _) ⟨wr.heap.size, 0, none⟩ 1 1 [.int .u8 (c.toNat : Nat)] rfl rfl (fun j u h => by rw [add_plain, Nat.zero_add, ← h]; exact (World.cell?_alloc_new _ _ _ j).trans (by simp)) (fun u hu => by simp at hu; subst hu; rfl) (by unfold maxLen; omega) (by omega) (by first | omega | (rw [World.size_alloc]; omega)) ?_))
      intro v3 w3 hO3 hg3 _
      have HB3 := Lib.hid (below_grown (HB.out.alloc hzz (Obj.cells #[.int .u8 (c.toNat : Nat)] 5)) (by simp; omega) hg3 (fun q hq => (HO.out.lt q hq).1))
      have htx := row_text (l := L ++ [c]) (show w3.ownsRow w.heap.size 5 1 v3 (L ++ [c]).length (byteC (L ++ [c])) by rw [byteC_snoc, List.length_append, ← HN.out]; exact hO3)
      rw [HQ.out] at htx
      clear hO3 hg3
      go_wp2_with fail
      go_ret
      exact ⟨rfl, HB3.out⟩
end Go.Proofs.YtalnflfafapicaaDoor
