/- Statements in a row are those statements: SplitMany answers true, and leaves what was there as it was. (Over the listed variables, tied to the program's text.) -/
import Derived.Test.YtckimeikiakfcaaDoorIntRow
import Derived.Test.YtckimeikiakfcaaDoorManyM
import Derived.Test.YtckimeikiakfcaaDoorOne
import Derived.Test.YtckimeikiakfcaaDoorFieldsA
namespace Go.Proofs.YtckimeikiakfcaaDoor
open Go.RowKit Go.Lib Go.WideShapes Go.ChangeShapes Go.ChangeAt Go.Joins

def fiveS : Nat → ByteArray
  | 0 => { data := #[115, 101, 116, 32, 120, 32, 61, 32, 49] } | 1 => { data := #[115, 101, 108, 101, 99, 116, 32, 39, 59, 39] } | 2 => { data := #[98, 101, 103, 105, 110] } | 3 => { data := #[34, 97, 59, 98, 34, 32, 47, 42, 32, 59, 32, 42, 47] } | _ => { data := #[36, 36, 59, 36, 36] }
theorem fiveS_bytes (j : Nat) (h : j < 5) : bytes (fiveS j) = fiveT.getD j [] ∧ (fiveS j).size ≤ 13 := by
  match j, h with
  | 0, _ => exact ⟨rfl, by decide⟩
  | 1, _ => exact ⟨rfl, by decide⟩
  | 2, _ => exact ⟨rfl, by decide⟩
  | 3, _ => exact ⟨rfl, by decide⟩
  | 4, _ => exact ⟨rfl, by decide⟩
theorem fiveS_cell (w : World) (i : Nat) (h : i < 5) : (w.alloc (Obj.cells #[.string { data := #[115, 101, 116, 32, 120, 32, 61, 32, 49] }, .string { data := #[115, 101, 108, 101, 99, 116, 32, 39, 59, 39] }, .string { data := #[98, 101, 103, 105, 110] }, .string { data := #[34, 97, 59, 98, 34, 32, 47, 42, 32, 59, 32, 42, 47] }, .string { data := #[36, 36, 59, 36, 36] }] 9)).cell? ⟨w.heap.size, i, none⟩ = some (.string (fiveS i)) := by
  match i, h with
  | 0, _ => exact World.cell?_alloc_new _ _ _ _
  | 1, _ => exact World.cell?_alloc_new _ _ _ _
  | 2, _ => exact World.cell?_alloc_new _ _ _ _
  | 3, _ => exact World.cell?_alloc_new _ _ _ _
  | 4, _ => exact World.cell?_alloc_new _ _ _ _
theorem mb_cat (a b : ByteArray) : bytes (a ++ b) = bytes a ++ bytes b := by simp [bytes]
theorem mbytes_str (x : ByteArray) : (⟨(bytes x).toArray⟩ : ByteArray) = x := by simp [bytes]
theorem fiveT_small (j : Nat) : (fiveT.getD j []).length ≤ 2000 := by
  match j with
  | 0 => decide
  | 1 => decide
  | 2 => decide
  | 3 => decide
  | 4 => decide
  | n + 5 => exact Nat.zero_le _
theorem texts_small {T : List Tok} {j : Nat} (h : T.map kt = fiveK.getD j []) : ∀ q ∈ T, q.text.length ≤ 2000 := fun q hq => by
  have : kt q ∈ fiveK.getD j [] := by rw [← h]; exact List.mem_map_of_mem hq
  have := (fiveK_small j).2 _ this
  exact Nat.le_trans this (by decide)
/-- One of the five more. -/
theorem built_more {S O : ByteArray} {J : List Nat} (h : Built (bytes S) J) {j : Nat} (hj : j < 5) (hO : bytes O = fiveT.getD j []) : Built (bytes ((S ++ O) ++ { data := #[32, 59] })) (J ++ [j]) := by
  rw [mb_cat, mb_cat, hO]; exact built_add h hj (five_zero j)
theorem built_signs {S : ByteArray} {J : List Nat} (h : Built (bytes S) J) : Built (bytes (S ++ { data := #[10, 59, 32] })) J := by
  rw [mb_cat]; exact built_sign h
/-- The texts wanted. -/
def wants (J : List Nat) : List Bs := J.map fun j => fiveT.getD j []
theorem wants_snoc (J : List Nat) (j : Nat) : wants (J ++ [j]) = wants J ++ [fiveT.getD j []] := by simp [wants]

set_option maxRecDepth 100000 in
set_option maxHeartbeats 8000000 in
theorem many_walk (l0 : Option Addr) (len cap : Nat) (c : Nat → Int) (s0 : Option Addr) (slen scap : Nat) (d : Nat → Int) (m : Int) (w : World) (hlen : len ≤ 30) (hC : len = 0 ∨ ∃ b off, l0 = some ⟨b, off, none⟩ ∧ b < w.heap.size ∧ IntsAt w b off len c) (hcr : ∀ i, i < len → -9223372036854775808 ≤ c i ∧ c i ≤ 9223372036854775807)
    (hD : slen = 0 ∨ ∃ b off, s0 = some ⟨b, off, none⟩ ∧ b < w.heap.size ∧ IntsAt w b off slen d) (hdr : ∀ i, i < slen → -9223372036854775808 ≤ d i ∧ d i ≤ 9223372036854775807) (hm : w.cell? ⟨0, 0, none⟩ = some (.int .i64 m)) :
    Calls Tryd.prog 7 #[.slice l0 len cap, .slice s0 slen scap] w fun e w' => e = .returned (.bool true) ∧ Below w.heap.size w w' := by
  obtain ⟨i0, hi, y0, y1, y2⟩ := info_parts info_string
  have HC := Lib.hid hC; have HCR := Lib.hid hcr
  have HD := Lib.hid hD; have HDR := Lib.hid hdr
  have HM := Lib.hid hm
  have HW0 := Lib.hid (World.block_lt_of_cell? w ⟨0, 0, none⟩ hm)
  have HSH := Lib.hid (shown4_true m w hm)
  have HSP := Lib.hid (fun (S : ByteArray) (W : World) h1 h2 => split_any S m W h1 h2)
  have HONE := Lib.hid (fun (S : ByteArray) (W : World) h1 h2 => one_any S m W h1 h2)
  have HFI := Lib.hid (fun p T n c W h1 h2 h3 h4 h5 => fields_any p T n c m W h1 h2 h3 h4 h5)
  clear hC hcr hD hdr hm
  go_enter Tryd.func7, Tryd.ntmps7
  go_wp2_with fail
  refine HSH.out.mono ?_; rintro e w1 ⟨rfl, hb1⟩
  have HB1 := Lib.hid hb1
  clear hb1 HSH
  go_wp2_with fail
  have hz1 := HB1.out.size
  have HB2 := Lib.hid (HB1.out.alloc hz1 (Obj.cells #[.string { data := #[115, 101, 116, 32, 120, 32, 61, 32, 49] }, .string { data := #[115, 101, 108, 101, 99, 116, 32, 39, 59, 39] }, .string { data := #[98, 101, 103, 105, 110] }, .string { data := #[34, 97, 59, 98, 34, 32, 47, 42, 32, 59, 32, 42, 47] }, .string { data := #[36, 36, 59, 36, 36] }] 9))
  have HWC := Lib.hid (fun i hi => fiveS_cell w1 i hi)
  have hgz : w1.heap.size < (w1.alloc (Obj.cells #[.string { data := #[115, 101, 116, 32, 120, 32, 61, 32, 49] }, .string { data := #[115, 101, 108, 101, 99, 116, 32, 39, 59, 39] }, .string { data := #[98, 101, 103, 105, 110] }, .string { data := #[34, 97, 59, 98, 34, 32, 47, 42, 32, 59, 32, 42, 47] }, .string { data := #[36, 36, 59, 36, 36] }] 9)).heap.size := by simp
  generalize w1.alloc (Obj.cells #[.string { data := #[115, 101, 116, 32, 120, 32, 61, 32, 49] }, .string { data := #[115, 101, 108, 101, 99, 116, 32, 39, 59, 39] }, .string { data := #[98, 101, 103, 105, 110] }, .string { data := #[34, 97, 59, 98, 34, 32, 47, 42, 32, 59, 32, 42, 47] }, .string { data := #[36, 36, 59, 36, 36] }] 9) = w2 at HB2 HWC hgz ⊢
  go_loopw [7, 8, 9] (fun s v i wr => ∃ (k : Nat) (J : List Nat) (S : ByteArray), k ≤ len ∧ i = .int .i64 k ∧ s = .string S ∧ S.size ≤ 27 * k + 1 ∧ J.length = k ∧ Built (bytes S) J ∧ (∀ x ∈ J, x < 5) ∧ Below w2.heap.size w2 wr ∧ wr.ownsRow w2.heap.size 9 1 v k (strC (wants J))) (fun _ _ i _ => len - (RowKit.intOf i).toNat)
  case atStart => exact ⟨0, [], _, Nat.zero_le _, rfl, rfl, by decide, rfl, built_start, by simp, Below.refl _ _, World.ownsRow_nil _ _ _ _⟩
  case round =>
    obtain ⟨k, J, S, hk, rfl, rfl, hSz, hJl, hSW, hJJ, hBB, hOO⟩ := hrel
    have HJL := Lib.hid hJl; have HSW := Lib.hid hSW; have HJJ := Lib.hid hJJ; have HBB := Lib.hid hBB; have HOO := Lib.hid hOO
    obtain ⟨va, vc, rfl⟩ := ownsRow_form hOO
    have hz2 := HBB.out.size
    clear hJl hSW hJJ hBB hOO
    by_cases hlt : k < len
    · obtain ⟨b, off, hl0, hb, hCC⟩ : ∃ b off, l0 = some ⟨b, off, none⟩ ∧ b < w.heap.size ∧ IntsAt w b off len c := HC.out.elim (fun h => by omega) id
      subst hl0
      have hck := hCC k hlt
      have hcr := HCR.out k hlt
      generalize c k = x at hck hcr
      have d0 : wr.cell? ⟨b, off + k, none⟩ = some (.int .i64 x) := ((HB2.out.step HBB.out HB2.out.size).cell (p := ⟨b, off + k, none⟩) hb).trans hck
      clear hCC hck
      have hlt' : (k : Int) < len := by omega
      by_cases hx : x < 0
      · have r9 : (x + 1).tmod 5 = -((-(x + 1)) % 5) := by
          rw [← Int.tmod_eq_emod_of_nonneg (by omega), Int.neg_tmod]; omega
        have r0 : (x + 1).tmod 5 ≤ 0 := by omega
        have r1 : -(x + 1).tmod 5 < 5 := by omega
        clear r9
        have hi4 : (-(x + 1).tmod 5).toNat < 5 := by omega
        have d1 : wr.cell? ⟨w1.heap.size, (-(x + 1).tmod 5).toNat, none⟩ = some (.string (fiveS (-(x + 1).tmod 5).toNat)) := (HBB.out.cell (p := ⟨w1.heap.size, (-(x + 1).tmod 5).toNat, none⟩) hgz).trans (HWC.out (-(x + 1).tmod 5).toNat hi4)
        have HWM := Lib.hid (fiveS_bytes (-(x + 1).tmod 5).toNat hi4)
        have HI5 := Lib.hid hi4
        have hb5 := HWM.out.2
        clear hi4
        generalize fiveS (-(x + 1).tmod 5).toNat = O at d1 HWM hb5
        go_wp2_with (at_builtin; refine wpList_append_at _ rfl (.tmp 43) (.tmp 49) 41 rfl w2.heap.size 9 i0 (.string { data := #[] }) 1 16 Tryd.underlying41 hi y0 y1 y2 rfl (by decide) (.slice va k vc) k (strC (wants J)) rfl (HOO.out.alloc _) ⟨wr.heap.size, 0, none⟩ 1 1 [.string O] rfl rfl (fun j u h => by rw [add_plain, Nat.zero_add, ← h]; exact (World.cell?_alloc_new wr _ _ j).trans (by simp)) (by intro u hu; simp at hu; rcases hu with rfl; rfl) (by unfold maxLen; omega) (by omega) (by simp; omega) ?_)
        intro v' w4 hO4 hg4 _
        have HO4 := Lib.hid hO4
        have HB4 := Lib.hid (show Below w2.heap.size w2 w4 from below_grown (HBB.out.alloc HBB.out.size (Obj.cells #[.string O] 9)) (by simp; omega) hg4 (fun q hq => (HOO.out.lt q hq).1))
        have d2 : w4.cell? ⟨w1.heap.size, (-(x + 1).tmod 5).toNat, none⟩ = some (.string O) := by rw [← d1]; exact (HB4.out.cell (p := ⟨w1.heap.size, (-(x + 1).tmod 5).toNat, none⟩) hgz).trans (HBB.out.cell (p := ⟨w1.heap.size, (-(x + 1).tmod 5).toNat, none⟩) hgz).symm
        have HSN := Lib.hid (built_more HSW.out HI5.out HWM.out.1)
        have hSN : ((S ++ O) ++ ({ data := #[32, 59] } : ByteArray)).size ≤ 27 * k + 16 := by simp only [ByteArray.size_append]; show S.size + O.size + 2 ≤ _; omega
        clear hO4 hg4 d1
        have HSZ := Lib.hid hSN
        clear hSN
        go_wp2_with fail
        generalize ((S ++ O) ++ ({ data := #[32, 59] } : ByteArray)) = S1 at HSN HSZ ⊢
        go_loopg [7, 11] 4 (fun g s v wr => ∃ (q : Nat) (S2 : ByteArray), v = .int .i64 q ∧ q ≤ 4 ∧ g = 4 - q ∧ s = .string S2 ∧ S2.size ≤ 27 * k + 16 + 3 * q ∧ Built (bytes S2) (J ++ [(-(x + 1).tmod 5).toNat]) ∧ wr = w4)
        case atStart => exact ⟨0, _, rfl, Nat.zero_le _, rfl, rfl, HSZ.out, HSN.out, rfl⟩
        case round =>
          obtain ⟨q, S2, rfl, hq, hg, rfl, hSX, hBX, rfl⟩ := hrel
          have HG := Lib.hid hg
          clear hg
          by_cases hsl : k < slen
          · obtain ⟨sb, soff, hs0, hsb, hDD⟩ : ∃ b off, s0 = some ⟨b, off, none⟩ ∧ b < w.heap.size ∧ IntsAt w b off slen d := HD.out.elim (fun h => by omega) id
            subst hs0
            have hdk := hDD k hsl
            have hdr := HDR.out k hsl
            generalize d k = y at hdk hdr
            have e0 : wr.cell? ⟨sb, soff + k, none⟩ = some (.int .i64 y) := ((HB2.out.step HB4.out HB2.out.size).cell (p := ⟨sb, soff + k, none⟩) hsb).trans hdk
            clear hDD hdk
            have hsl' : (k : Int) < slen := by omega
            by_cases hy : (q : Int) < y
            · by_cases hq4 : (q : Int) < 4
              · have hS9 : S2.size ≤ 2000 := by omega
                have HSX := Lib.hid hSX
                have HBX := Lib.hid (built_signs hBX)
                clear hSX hBX
                go_wp2_with fail
                go_roundg (4 - (q + 1))
                case measure => have := HG.out; omega
                case rel => exact ⟨q + 1, _, by go_num, by omega, rfl, rfl, by have := HSX.out; rw [ByteArray.size_append]; show S2.size + 3 ≤ _; omega, HBX.out, rfl⟩
              · have HSX := Lib.hid hSX
                have HBX := Lib.hid hBX
                clear hSX hBX
                go_wp2_with fail
                go_roundw
                case rel => exact ⟨k + 1, J ++ [(-(x + 1).tmod 5).toNat], S2, by omega, by go_num, rfl, by have := HSX.out; omega, by rw [List.length_append, HJL.out]; rfl, HBX.out, fun x hx => by rcases List.mem_append.1 hx with h | h; exact HJJ.out x h; rw [List.mem_singleton.1 h]; exact HI5.out, HB4.out, by rw [wants_snoc, strC_snoc, ← HWM.out.1, mbytes_str]; exact HO4.out⟩
                case measure => simp [RowKit.intOf]; omega
            · have HSX := Lib.hid hSX
              have HBX := Lib.hid hBX
              clear hSX hBX
              go_wp2_with fail
              go_roundw
              case rel => exact ⟨k + 1, J ++ [(-(x + 1).tmod 5).toNat], S2, by omega, by go_num, rfl, by have := HSX.out; omega, by rw [List.length_append, HJL.out]; rfl, HBX.out, fun x hx => by rcases List.mem_append.1 hx with h | h; exact HJJ.out x h; rw [List.mem_singleton.1 h]; exact HI5.out, HB4.out, by rw [wants_snoc, strC_snoc, ← HWM.out.1, mbytes_str]; exact HO4.out⟩
              case measure => simp [RowKit.intOf]; omega
          · have hsl' : (slen : Int) ≤ k := by omega
            have HSX := Lib.hid hSX
            have HBX := Lib.hid hBX
            clear hSX hBX
            go_wp2_with fail
            go_roundw
            case rel => exact ⟨k + 1, J ++ [(-(x + 1).tmod 5).toNat], S2, by omega, by go_num, rfl, by have := HSX.out; omega, by rw [List.length_append, HJL.out]; rfl, HBX.out, fun x hx => by rcases List.mem_append.1 hx with h | h; exact HJJ.out x h; rw [List.mem_singleton.1 h]; exact HI5.out, HB4.out, by rw [wants_snoc, strC_snoc, ← HWM.out.1, mbytes_str]; exact HO4.out⟩
            case measure => simp [RowKit.intOf]; omega
      · have hx' : 0 ≤ x := by omega
        have r0 : 0 ≤ x % 5 := by omega
        have r1 : x % 5 < 5 := by omega
        have hi4 : (x % 5).toNat < 5 := by omega
        have d1 : wr.cell? ⟨w1.heap.size, (x % 5).toNat, none⟩ = some (.string (fiveS (x % 5).toNat)) := (HBB.out.cell (p := ⟨w1.heap.size, (x % 5).toNat, none⟩) hgz).trans (HWC.out (x % 5).toNat hi4)
        have HWM := Lib.hid (fiveS_bytes (x % 5).toNat hi4)
        have HI5 := Lib.hid hi4
        have hb5 := HWM.out.2
        clear hi4
        generalize fiveS (x % 5).toNat = O at d1 HWM hb5
        go_wp2_with (at_builtin; refine wpList_append_at _ rfl (.tmp 43) (.tmp 49) 41 rfl w2.heap.size 9 i0 (.string { data := #[] }) 1 16 Tryd.underlying41 hi y0 y1 y2 rfl (by decide) (.slice va k vc) k (strC (wants J)) rfl (HOO.out.alloc _) ⟨wr.heap.size, 0, none⟩ 1 1 [.string O] rfl rfl (fun j u h => by rw [add_plain, Nat.zero_add, ← h]; exact (World.cell?_alloc_new wr _ _ j).trans (by simp)) (by intro u hu; simp at hu; rcases hu with rfl; rfl) (by unfold maxLen; omega) (by omega) (by simp; omega) ?_)
        intro v' w4 hO4 hg4 _
        have HO4 := Lib.hid hO4
        have HB4 := Lib.hid (show Below w2.heap.size w2 w4 from below_grown (HBB.out.alloc HBB.out.size (Obj.cells #[.string O] 9)) (by simp; omega) hg4 (fun q hq => (HOO.out.lt q hq).1))
        have d2 : w4.cell? ⟨w1.heap.size, (x % 5).toNat, none⟩ = some (.string O) := by rw [← d1]; exact (HB4.out.cell (p := ⟨w1.heap.size, (x % 5).toNat, none⟩) hgz).trans (HBB.out.cell (p := ⟨w1.heap.size, (x % 5).toNat, none⟩) hgz).symm
        have HSN := Lib.hid (built_more HSW.out HI5.out HWM.out.1)
        have hSN : ((S ++ O) ++ ({ data := #[32, 59] } : ByteArray)).size ≤ 27 * k + 16 := by simp only [ByteArray.size_append]; show S.size + O.size + 2 ≤ _; omega
        clear hO4 hg4 d1
        have HSZ := Lib.hid hSN
        clear hSN
        go_wp2_with fail
        generalize ((S ++ O) ++ ({ data := #[32, 59] } : ByteArray)) = S1 at HSN HSZ ⊢
        go_loopg [7, 11] 4 (fun g s v wr => ∃ (q : Nat) (S2 : ByteArray), v = .int .i64 q ∧ q ≤ 4 ∧ g = 4 - q ∧ s = .string S2 ∧ S2.size ≤ 27 * k + 16 + 3 * q ∧ Built (bytes S2) (J ++ [(x % 5).toNat]) ∧ wr = w4)
        case atStart => exact ⟨0, _, rfl, Nat.zero_le _, rfl, rfl, HSZ.out, HSN.out, rfl⟩
        case round =>
          obtain ⟨q, S2, rfl, hq, hg, rfl, hSX, hBX, rfl⟩ := hrel
          have HG := Lib.hid hg
          clear hg
          by_cases hsl : k < slen
          · obtain ⟨sb, soff, hs0, hsb, hDD⟩ : ∃ b off, s0 = some ⟨b, off, none⟩ ∧ b < w.heap.size ∧ IntsAt w b off slen d := HD.out.elim (fun h => by omega) id
            subst hs0
            have hdk := hDD k hsl
            have hdr := HDR.out k hsl
            generalize d k = y at hdk hdr
            have e0 : wr.cell? ⟨sb, soff + k, none⟩ = some (.int .i64 y) := ((HB2.out.step HB4.out HB2.out.size).cell (p := ⟨sb, soff + k, none⟩) hsb).trans hdk
            clear hDD hdk
            have hsl' : (k : Int) < slen := by omega
            by_cases hy : (q : Int) < y
            · by_cases hq4 : (q : Int) < 4
              · have hS9 : S2.size ≤ 2000 := by omega
                have HSX := Lib.hid hSX
                have HBX := Lib.hid (built_signs hBX)
                clear hSX hBX
                go_wp2_with fail
                go_roundg (4 - (q + 1))
                case measure => have := HG.out; omega
                case rel => exact ⟨q + 1, _, by go_num, by omega, rfl, rfl, by have := HSX.out; rw [ByteArray.size_append]; show S2.size + 3 ≤ _; omega, HBX.out, rfl⟩
              · have HSX := Lib.hid hSX
                have HBX := Lib.hid hBX
                clear hSX hBX
                go_wp2_with fail
                go_roundw
                case rel => exact ⟨k + 1, J ++ [(x % 5).toNat], S2, by omega, by go_num, rfl, by have := HSX.out; omega, by rw [List.length_append, HJL.out]; rfl, HBX.out, fun x hx => by rcases List.mem_append.1 hx with h | h; exact HJJ.out x h; rw [List.mem_singleton.1 h]; exact HI5.out, HB4.out, by rw [wants_snoc, strC_snoc, ← HWM.out.1, mbytes_str]; exact HO4.out⟩
                case measure => simp [RowKit.intOf]; omega
            · have HSX := Lib.hid hSX
              have HBX := Lib.hid hBX
              clear hSX hBX
              go_wp2_with fail
              go_roundw
              case rel => exact ⟨k + 1, J ++ [(x % 5).toNat], S2, by omega, by go_num, rfl, by have := HSX.out; omega, by rw [List.length_append, HJL.out]; rfl, HBX.out, fun x hx => by rcases List.mem_append.1 hx with h | h; exact HJJ.out x h; rw [List.mem_singleton.1 h]; exact HI5.out, HB4.out, by rw [wants_snoc, strC_snoc, ← HWM.out.1, mbytes_str]; exact HO4.out⟩
              case measure => simp [RowKit.intOf]; omega
          · have hsl' : (slen : Int) ≤ k := by omega
            have HSX := Lib.hid hSX
            have HBX := Lib.hid hBX
            clear hSX hBX
            go_wp2_with fail
            go_roundw
            case rel => exact ⟨k + 1, J ++ [(x % 5).toNat], S2, by omega, by go_num, rfl, by have := HSX.out; omega, by rw [List.length_append, HJL.out]; rfl, HBX.out, fun x hx => by rcases List.mem_append.1 hx with h | h; exact HJJ.out x h; rw [List.mem_singleton.1 h]; exact HI5.out, HB4.out, by rw [wants_snoc, strC_snoc, ← HWM.out.1, mbytes_str]; exact HO4.out⟩
            case measure => simp [RowKit.intOf]; omega
    · obtain rfl : k = len := by omega
      have HMW := Lib.hid (((HB2.out.step HBB.out HB2.out.size).cell (p := ⟨0, 0, none⟩) HW0.out).trans HM.out)
      have HB3 := Lib.hid (HB2.out.step HBB.out HB2.out.size)
      clear HC HCR HD HDR HWC HB2 HB1
      go_wp2_with fail
      refine (HSP.out _ wr (by omega) HMW.out).mono ?_; rintro e w3 ⟨hb3, hcs⟩
      have HB4 := Lib.hid (HB3.out.step hb3 HB3.out.size)
      have HOW := Lib.hid (own_grown HOO.out hb3 (Nat.le_refl _))
      obtain ⟨L0, hL0, hK0⟩ := built_done HSW.out
      clear hb3 HBB HB3 HMW HOO hSz HSW hgz hz1
      rcases hcs with ⟨hN, _⟩ | ⟨T, xs, n, p, cc, hT, hxs, hn, hn1, hnc, rfl, hst, hin⟩
      · rw [hL0] at hN; cases hN
      · rw [hL0] at hT
        cases hT
        have hKX : xs.map (fun x => x.toks.map kt) = J.map (fun j => fiveK.getD j []) := by rw [← hK0, ← hxs, List.map_map]; rfl
        have hnk : n = k := by have := congrArg List.length hKX; rw [List.length_map, List.length_map, hn, HJL.out] at this; exact this
        subst hnk
        have HKX := Lib.hid hKX; have HST := Lib.hid hst; have HIN := Lib.hid hin; have HXN := Lib.hid hn
        clear hKX hK0 hxs hst hin hn hL0
        have hee : ((n : Int) == n) = true := by simp
        have hww := HOW.out.lt
        go_wp2_with fail
        go_loopw [14] (fun i wr => ∃ k : Nat, i = .int .i64 k ∧ k ≤ n ∧ Below w3.heap.size w3 wr) (fun i _ => n - (RowKit.intOf i).toNat)
        case atStart => exact ⟨0, rfl, Nat.zero_le _, Below.refl _ _⟩
        case round =>
          obtain ⟨k, rfl, hk, hBk⟩ := hrel
          have HBK := Lib.hid hBk
          clear hBk
          by_cases hlt : k < n
          · have hlt' : (k : Int) < n := by omega
            have hjl := HJL.out
            obtain ⟨j, hj⟩ : ∃ j, J[k]? = some j := ⟨_, List.getElem?_eq_getElem (by omega)⟩
            have hj5 : j < 5 := HJJ.out j (List.mem_of_getElem? hj)
            obtain ⟨x, hx⟩ : ∃ x, xs[k]? = some x := ⟨_, List.getElem?_eq_getElem (by rw [HXN.out]; exact hlt)⟩
            have hxm := List.mem_of_getElem? hx
            have hxk : x.toks.map kt = fiveK.getD j [] := by
              have := congrArg (·[k]?) HKX.out
              simp only [List.getElem?_map, hx, hj, Option.map_some, Option.some.injEq] at this
              exact this
            obtain ⟨gw, rfl, hgw, hwc⟩ := own_words HOW.out (by simp [wants, hjl]) k (fiveT.getD j []) (by simp [wants, hj])
            obtain ⟨gs, rfl, hgs, a0, a1, a2⟩ := HST.out k x hx
            have hxi := HIN.out x hxm
            have v0 := (HBK.out.cell (p := ⟨gw, k, none⟩) hgw).trans hwc
            obtain ⟨O, hO⟩ : ∃ O : ByteArray, O = ⟨(fiveT.getD j []).toArray⟩ := ⟨_, rfl⟩
            rw [← hO] at v0
            have hOb : bytes O = fiveT.getD j [] := by rw [hO]
            have hOs : O.size ≤ 2000 := by rw [← bytes_len, hOb]; exact fiveT_small j
            obtain ⟨T1, hT1, hS1, hK1⟩ := five_one j hj5
            rw [← hOb] at hT1
            have HT1 := Lib.hid hT1; have HS1 := Lib.hid hS1; have HK1 := Lib.hid hK1
            have HXK := Lib.hid hxk; have HXI := Lib.hid hxi; have HA0 := Lib.hid a0; have HA1 := Lib.hid a1; have HA2 := Lib.hid a2
            have HB5 := Lib.hid (HB4.out.step HBK.out HB4.out.size)
            have HM5 := Lib.hid ((HB5.out.cell (p := ⟨0, 0, none⟩) HW0.out).trans HM.out)
            clear hT1 hS1 hK1 hxk hxi a0 a1 a2 hO hOb hwc hx hj hxm hjl
            go_wp2_with fail
            refine (HONE.out _ wr hOs HM5.out).mono ?_; rintro e w6 ⟨hb6, hcs⟩
            rcases hcs with ⟨hN, _⟩ | ⟨T2, hT2, hN, _⟩ | ⟨T2, y, hT2, hY, rfl, hyi⟩
            · rw [HT1.out] at hN; cases hN
            · rw [HT1.out] at hT2; cases hT2; exact absurd (by rw [HS1.out]; rfl) hN
            · rw [HT1.out] at hT2; cases hT2
              rw [HS1.out] at hY
              have hyt : y.toks = T1 := by simpa using hY.symm
              clear hY
              have HYT := Lib.hid hyt; have HYI := Lib.hid hyi
              have hyl : y.toks.length = x.toks.length := by rw [hyt]; have := congrArg List.length (HK1.out.trans HXK.out.symm); rw [List.length_map, List.length_map] at this; exact this
              obtain ⟨L, hL⟩ : ∃ L, x.toks.length = L := ⟨_, rfl⟩
              rw [hL] at hyl
              rw [hyl]
              have HB6 := Lib.hid (HB5.out.step hb6 HB5.out.size)
              have hgs2 : gs < w6.heap.size := Nat.lt_of_lt_of_le hgs (Nat.le_trans HBK.out.size hb6.size)
              have c0 := ((HBK.out.step hb6 HBK.out.size).cell (p := ⟨gs, k * 3, none⟩) hgs).trans HA0.out
              have c1 := ((HBK.out.step hb6 HBK.out.size).cell (p := ⟨gs, k * 3 + 1, none⟩) hgs).trans HA1.out
              have c2 := ((HBK.out.step hb6 HBK.out.size).cell (p := ⟨gs, k * 3 + 2, none⟩) hgs).trans HA2.out
              rw [hL] at c0
              have HL := Lib.hid hL; have HYL := Lib.hid hyl; have HB66 := Lib.hid hb6
              clear hyt hyi hL hyl hb6
              go_upto_region 26 with (fail)
              have hb7 : Below w6.heap.size w6 (w6.alloc (Obj.cells #[.slice y.u L y.d, .int .i64 y.lo, .int .i64 y.hi] 35)) := (Below.refl _ w6).alloc (Nat.le_refl _) _
              have e0 : (w6.alloc (Obj.cells #[.slice y.u L y.d, .int .i64 y.lo, .int .i64 y.hi] 35)).cell? ⟨w6.heap.size, 0, none⟩ = some (.slice y.u L y.d) := World.cell?_alloc_new _ _ _ _
              have hz7 : w6.heap.size < (w6.alloc (Obj.cells #[.slice y.u L y.d, .int .i64 y.lo, .int .i64 y.hi] 35)).heap.size := by simp
              generalize w6.alloc (Obj.cells #[.slice y.u L y.d, .int .i64 y.lo, .int .i64 y.hi] 35) = w7 at hb7 e0 hz7 ⊢
              have HB67 := Lib.hid hb7
              have HB7 := Lib.hid (HB6.out.step hb7 HB6.out.size)
              have HB37 := Lib.hid ((HBK.out.step HB66.out HBK.out.size).step hb7 (HBK.out.step HB66.out HBK.out.size).size)
              have hgs7 : gs < w7.heap.size := Nat.lt_of_lt_of_le hgs2 hb7.size
              have S0 : (w7.cell? ⟨w6.heap.size, 0, none⟩ = some (.slice y.u L y.d) ∧ w7.cell? ⟨gs, k * 3, none⟩ = some (.slice x.u L x.d)) ∧ Below w7.heap.size w7 w7 := ⟨⟨e0, (hb7.cell (p := ⟨gs, k * 3, none⟩) hgs2).trans c0⟩, Below.refl _ _⟩
              have HSTEP := Lib.hid (show ∀ W W', ((W.cell? ⟨w6.heap.size, 0, none⟩ = some (.slice y.u L y.d) ∧ W.cell? ⟨gs, k * 3, none⟩ = some (.slice x.u L x.d)) ∧ Below w7.heap.size w7 W) → Below W.heap.size W W' → ((W'.cell? ⟨w6.heap.size, 0, none⟩ = some (.slice y.u L y.d) ∧ W'.cell? ⟨gs, k * 3, none⟩ = some (.slice x.u L x.d)) ∧ Below w7.heap.size w7 W') from fun W W' h hb => ⟨⟨(hb.cell (p := ⟨w6.heap.size, 0, none⟩) (Nat.lt_of_lt_of_le hz7 h.2.size)).trans h.1.1, (hb.cell (p := ⟨gs, k * 3, none⟩) (Nat.lt_of_lt_of_le hgs7 h.2.size)).trans h.1.2⟩, h.2.step hb h.2.size⟩)
              obtain ⟨F, hF⟩ : ∃ F : ByteArray, F = ⟨(fieldsB T1).toArray⟩ := ⟨_, rfl⟩
              have hLs : L ≤ 2001 ∧ T1.length = L := by
                have h1 := congrArg List.length HK1.out
                rw [List.length_map] at h1
                have h2 := (fiveK_small j).1
                have h3 := HYL.out
                rw [HYT.out] at h3
                omega
              have HFY := Lib.hid (show ∀ W, Below w7.heap.size w7 W → Calls Tryd.prog 11 #[.slice y.u L y.d] W fun e w' => e = .returned (.string F) ∧ Below W.heap.size W w' from fun W hW => by
                have := HFI.out y.u T1 L y.d W hLs.2 hLs.1 (by rw [← HYT.out]; exact ((HYI.out.at.step HB67.out).step hW).off) (texts_small HK1.out) (((HB7.out.step hW HB7.out.size).cell (p := ⟨0, 0, none⟩) HW0.out).trans HM.out)
                rw [← hF] at this; exact this)
              have HFX := Lib.hid (show ∀ W, Below w7.heap.size w7 W → Calls Tryd.prog 11 #[.slice x.u L x.d] W fun e w' => e = .returned (.string F) ∧ Below W.heap.size W w' from fun W hW => by
                have := HFI.out x.u x.toks L x.d W HL.out hLs.1 (((HXI.out.at.step HB37.out).step hW).off) (texts_small HXK.out) (((HB7.out.step hW HB7.out.size).cell (p := ⟨0, 0, none⟩) HW0.out).trans HM.out)
                rw [fieldsB_kt x.toks T1 (HXK.out.trans HK1.out.symm), ← hF] at this; exact this)
              have hL9 : (L : Int) ≤ 2001 := by have := hLs.1; omega
              have hLL : ((L : Int) == L) = true := by simp
              have HBN := Lib.hid (show ∀ W, Below w7.heap.size w7 W → Below w3.heap.size w3 W from fun W h => HB37.out.step h HB37.out.size)
              clear hF hLs hb7 e0 c0 c1 c2 hgs2 hww HB37 HB7 HB67 HXI HYI HYT HYL HK1 HXK HT1 HS1 HL HB66 HB6 HB5 HM5 HOW HJL HST hOs HA0 HA1 HA2
              generalize y.u = yu at S0 HFY HSTEP ⊢
              generalize y.d = yd at S0 HFY HSTEP ⊢
              generalize x.u = xu at S0 HFX HSTEP ⊢
              generalize x.d = xd at S0 HFX HSTEP ⊢
              generalize y.lo = ylo
              generalize y.hi = yhi
              generalize hg6 : w6.heap.size = g6 at S0 HSTEP ⊢
              go_region_held3 (fun w' => (w'.cell? ⟨g6, 0, none⟩ = some (.slice yu L yd) ∧ w'.cell? ⟨gs, k * 3, none⟩ = some (.slice xu L xd)) ∧ Below w7.heap.size w7 w') (first | exact S2 | exact S1 | exact ⟨S0.1, S0.2.drew⟩)
                (first | (go_at_call 11; first | (refine (HFX.out _ S1.2).mono ?_; rintro e w9 ⟨rfl, hb9⟩; have S2 := HSTEP.out w8 w9 S1 hb9) | (refine (HFY.out _ S0.2.drew).mono ?_; rintro e w8 ⟨rfl, hb8⟩; have S1 := HSTEP.out w7.drew w8 ⟨S0.1, S0.2.drew⟩ hb8))) 
              all_goals
                go_wp2_with fail
                go_roundw
                case rel => exact ⟨k + 1, by go_num, by omega, HBN.out _ S2.2⟩
                case measure => simp [RowKit.intOf]; omega
          · obtain rfl : k = n := by omega
            go_wp2_with fail
            go_ret
            exact ⟨rfl, HB4.out.step HBK.out HB4.out.size⟩

theorem many_early (l0 : Option Addr) (len cap : Nat) (s0 : Option Addr) (slen scap : Nat) (m : Int) (w : World) (h1 : (30 : Int) < len) (hm : w.cell? ⟨0, 0, none⟩ = some (.int .i64 m)) :
    Calls Tryd.prog 7 #[.slice l0 len cap, .slice s0 slen scap] w fun e w' => e = .returned (.bool true) ∧ Below w.heap.size w w' := by
  have HSH := Lib.hid (shown4_true m w hm)
  clear hm
  go_enter Tryd.func7, Tryd.ntmps7
  go_wp2_with fail
  refine HSH.out.mono ?_; rintro e w1 ⟨rfl, hb1⟩
  have HB1 := Lib.hid hb1
  clear hb1 HSH
  go_wp2_with fail
  go_ret
  exact ⟨rfl, HB1.out⟩

theorem many_ok (l0 : Option Addr) (len cap : Nat) (c : Nat → Int) (s0 : Option Addr) (slen scap : Nat) (d : Nat → Int) (m : Int) (w : World) (hC : len = 0 ∨ ∃ b off, l0 = some ⟨b, off, none⟩ ∧ b < w.heap.size ∧ IntsAt w b off len c) (hcr : ∀ i, i < len → -9223372036854775808 ≤ c i ∧ c i ≤ 9223372036854775807)
    (hD : slen = 0 ∨ ∃ b off, s0 = some ⟨b, off, none⟩ ∧ b < w.heap.size ∧ IntsAt w b off slen d) (hdr : ∀ i, i < slen → -9223372036854775808 ≤ d i ∧ d i ≤ 9223372036854775807) (hm : w.cell? ⟨0, 0, none⟩ = some (.int .i64 m)) :
    Calls Tryd.prog 7 #[.slice l0 len cap, .slice s0 slen scap] w fun e w' => e = .returned (.bool true) ∧ Below w.heap.size w w' := by
  by_cases h : len ≤ 30
  · exact many_walk l0 len cap c s0 slen scap d m w h hC hcr hD hdr hm
  · exact many_early l0 len cap s0 slen scap m w (by omega) hm

set_option maxRecDepth 100000 in
theorem many_lifted (os : Os) (started : os.Started) (H : Type) (enc : TypeId × Value → H) :
    ReturnsInHanded {} Tryd.checked os 7 .any (fun w args => (Rows.splitManySpec.pre enc Tryd.prog Tryd.f7 Rows.splitManyRow.domain false w args ∧ laidMetH Tryd.prog [("unicode/utf8.acceptRanges", Rows.laid_unicode_utf8_acceptRanges), ("unicode/utf8.first", Rows.laid_unicode_utf8_first)] w) ∧ sizedMet enc Tryd.prog Tryd.f7 (OpenSpec.ofChange Rows.splitManySpec) false w args) (Rows.splitManySpec.post enc Tryd.prog Tryd.f7 false true false false) := by
  refine handed_laid (C := Tryd.checked) (X := fun w _ => laidMetH Tryd.prog [("unicode/utf8.acceptRanges", Rows.laid_unicode_utf8_acceptRanges), ("unicode/utf8.first", Rows.laid_unicode_utf8_first)] w) (fun _ _ _ hh h => h.of_heap hh) own started (by kernel_rfl) Tryd.func7
    (ChangeSpec.witness_shaped (enc := enc) (C := Tryd.checked) (os := os) (X := fun w _ => laidMetH Tryd.prog [("unicode/utf8.acceptRanges", Rows.laid_unicode_utf8_acceptRanges), ("unicode/utf8.first", Rows.laid_unicode_utf8_first)] w) false (World.laidAll Tryd.prog os [("unicode/utf8.acceptRanges", Rows.laid_unicode_utf8_acceptRanges), ("unicode/utf8.first", Rows.laid_unicode_utf8_first)]) #[.slice none 0 0, .slice none 0 0] 8 (World.laidAll_os _ _ _) (World.shaped_of_ZipB (by kernel_rfl) (by kernel_rfl)) (by kernel_rfl) (by kernel_rfl) (by kernel_rfl)
      (by rw [MakeChecks.laidMetH_plain _ _ _ (by kernel_rfl)]; exact laidMet_laidAll _ (by kernel_rfl) (by kernel_rfl))) ?_
  intro W base args ds gs before hval0 hW hsz0 hsh hL
  obtain ⟨m, hm⟩ : ∃ m, W.cell? ⟨0, 0, none⟩ = some (.int .i64 m) := Tryd.laysM143.s1_3 W hsh
  have hsz : (DataW.weightsEach Tryd.prog (Tryd.f7.params.toList ++ Rows.splitManySpec.plain.varTypes Tryd.prog) (ds ++ gs)).all (· ≤ reachBytes) = true := hsz0
  clear hsz0
  have hval : ∀ (j : Nat) t v, Tryd.f7.params[j]? = some t → args[j]? = some v → Value.okWide Tryd.prog W .any base t v := hval0
  have hW' := hW
  obtain ⟨p, q, hA0, hV, rfl, _, _⟩ := hW
  have hA : DataW.TrodAll enc Tryd.prog W 0 (fun _ => true) true Tryd.f7.params.toList args.toList ds p := hA0
  rw [Tryd.params7] at hA hval hsz
  obtain ⟨v0, v1, d0, d1, p0, p1, rfl, rfl, rfl, h0, h1⟩ := trodAll_two hA
  obtain ⟨rfl, rfl⟩ := trodVars_none hV
  obtain ⟨a0, len, cap, rfl⟩ := okWide_slice Tryd.underlying40 (hval 0 40 v0 rfl rfl)
  obtain ⟨c, hcr, hC⟩ := open_row h0
  obtain ⟨a1, slen, scap, rfl⟩ := okWide_slice Tryd.underlying40 (hval 1 40 v1 rfl rfl)
  obtain ⟨d, hdr, hD⟩ := open_row h1
  refine (many_ok a0 len cap c a1 slen scap d m W hC hcr hD hdr hm).mono fun e W' ⟨he, hb⟩ => ?_
  subst he
  exact ⟨_, rfl, law_shut laidOut (by kernel_rfl) (by kernel_rfl) Tryd.underlying4 rfl hW' rfl hb⟩

theorem many_holds : Rows.SplitManySaid :=
  OpenClaim.holds_of_wide 7 Tryd.f7 rfl rfl rfl rfl rfl rfl rfl ⟨rfl, rfl, rfl, rfl, rfl⟩ rfl rfl rfl rfl rfl (by kernel_rfl) Tryd.func7 (by kernel_rfl)
    (of_decide_eq_true (by kernel_rfl)) (by unfold Func.isWrapper; rw [if_neg (of_decide_eq_false (by kernel_rfl))]; exact ⟨rfl, rfl⟩)
    (fun os started H enc _ => many_lifted os started H enc)

theorem many_card : Rows.SplitManyCardSaid :=
  Claim7.holds_tied_plain_at .later [] [.data, .pinned] true _ false many_holds (fun _ h => by cases h) (by kernel_rfl) (fun _ h => by cases h) splitMany_row_tie rfl ⟨rfl, rfl⟩ (by kernel_rfl) rfl
    (fun f fn hf hfn => by
      obtain rfl : f = 7 := Option.some.inj ((show Tryd.prog.funcNamed "taxirank/taxiranklaw4.SplitMany" = some 7 by kernel_rfl).symm.trans hf) |>.symm
      obtain rfl : fn = Tryd.f7 := (Option.some.inj (Tryd.func7.symm.trans hfn)).symm
      exact ⟨by kernel_rfl, fun j t ht => by
        rw [Tryd.params7] at ht
        have hm : t ∈ [40, 40] := by simpa using Array.mem_of_getElem? ht
        have hall : ([40, 40].all fun u => !Tryd.prog.wantsStandIn u) = true := by kernel_rfl
        exact (show Tryd.prog.wantsStandIn t = false by simpa using List.all_eq_true.1 hall t hm)⟩)
    (by kernel_rfl)
end Go.Proofs.YtckimeikiakfcaaDoor
