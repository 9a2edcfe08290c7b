/- What is written of a command is that command, of any name, any value, in quotes, with any of the words that may be there: ParseWrites answers true, and leaves what was there as it was. (Over the listed variables, tied to the program's text.) -/
import Derived.Test.YtgopajddloeclaaDoorZ12
import Derived.Test.YtgopajddloeclaaDoorZ25
import Derived.Test.YtgopajddloeclaaDoorLPWritesF
import Derived.Deep.DeepCutAuto
import Derived.Deep.CutBlock
import Derived.Deep.LoopGhost
import Derived.BigQuiet
import Derived.Deep.QuietTactic
namespace Go.Proofs.YtgopajddloeclaaDoor
open Go.RowKit Go.Lib Go.WideShapes Go.ChangeShapes Go.ChangeAt Go.Joins

theorem wstr_back (s : ByteArray) : (⟨(bytes s).toArray⟩ : ByteArray) = s := by simp [bytes]


theorem p_ext (a : ByteArray) (i j : Nat) : bytes (a.extract i j) = ((bytes a).drop i).take (j - i) := by
  unfold bytes
  rw [ByteArray.data_extract, Array.toList_extract]
/-- The nine texts. -/
def wrS (FU QQ name : ByteArray) : Nat → ByteArray
  | 0 => ((({ data := #[115, 101, 116, 32] } : ByteArray) ++ FU) ++ ({ data := #[32, 116, 111, 32] } : ByteArray)) ++ QQ
  | 1 => ((({ data := #[83, 69, 84, 32, 76, 79, 67, 65, 76, 32] } : ByteArray) ++ FU) ++ ({ data := #[61] } : ByteArray)) ++ QQ
  | 2 => ({ data := #[115, 101, 116, 32, 34, 120, 34, 46, 34, 121, 34, 32, 116, 111, 32, 100, 101, 102, 97, 117, 108, 116] } : ByteArray)
  | 3 => ({ data := #[114, 101, 115, 101, 116, 32] } : ByteArray) ++ FU
  | 4 => ({ data := #[115, 104, 111, 119, 32] } : ByteArray) ++ FU
  | 5 => (({ data := #[115, 97, 118, 101, 112, 111, 105, 110, 116, 32, 34] } : ByteArray) ++ name) ++ ({ data := #[34] } : ByteArray)
  | 6 => (({ data := #[114, 111, 108, 108, 98, 97, 99, 107, 32, 119, 111, 114, 107, 32, 116, 111, 32, 115, 97, 118, 101, 112, 111, 105, 110, 116, 32, 34] } : ByteArray) ++ name) ++ ({ data := #[34] } : ByteArray)
  | 7 => (({ data := #[114, 101, 108, 101, 97, 115, 101, 32, 34] } : ByteArray) ++ name) ++ ({ data := #[34] } : ByteArray)
  | _ => ((({ data := #[115, 101, 116, 32, 115, 101, 115, 115, 105, 111, 110, 32] } : ByteArray) ++ FU) ++ ({ data := #[32, 61, 32] } : ByteArray)) ++ QQ

theorem wrS_bytes (FU QQ name v : ByteArray) (hF : bytes FU = fullB (bytes name)) (hQ : bytes QQ = quoted 39 (bytes v)) (hg : goodB (bytes name) = true) (j : Nat) (hj : j < 9) : bytes (wrS FU QQ name j) = wrT (bytes name) (bytes v) j := by
  have hn := good_quoted hg
  match j, hj with
  | 0, _ => show bytes (((({ data := #[115, 101, 116, 32] } : ByteArray) ++ FU) ++ ({ data := #[32, 116, 111, 32] } : ByteArray)) ++ QQ) = _; rw [p_cat, p_cat, p_cat, hF, hQ]; simp [bytes, wrT]
  | 1, _ => show bytes (((({ data := #[83, 69, 84, 32, 76, 79, 67, 65, 76, 32] } : ByteArray) ++ FU) ++ ({ data := #[61] } : ByteArray)) ++ QQ) = _; rw [p_cat, p_cat, p_cat, hF, hQ]; simp [bytes, wrT]
  | 2, _ => rfl
  | 3, _ => show bytes (({ data := #[114, 101, 115, 101, 116, 32] } : ByteArray) ++ FU) = _; rw [p_cat, hF]; simp [bytes, wrT]
  | 4, _ => show bytes (({ data := #[115, 104, 111, 119, 32] } : ByteArray) ++ FU) = _; rw [p_cat, hF]; simp [bytes, wrT]
  | 5, _ => show bytes ((({ data := #[115, 97, 118, 101, 112, 111, 105, 110, 116, 32, 34] } : ByteArray) ++ name) ++ ({ data := #[34] } : ByteArray)) = _; rw [p_cat, p_cat]; unfold wrT; rw [hn]; simp [bytes]
  | 6, _ => show bytes ((({ data := #[114, 111, 108, 108, 98, 97, 99, 107, 32, 119, 111, 114, 107, 32, 116, 111, 32, 115, 97, 118, 101, 112, 111, 105, 110, 116, 32, 34] } : ByteArray) ++ name) ++ ({ data := #[34] } : ByteArray)) = _; rw [p_cat, p_cat]; unfold wrT; rw [hn]; simp [bytes]
  | 7, _ => show bytes ((({ data := #[114, 101, 108, 101, 97, 115, 101, 32, 34] } : ByteArray) ++ name) ++ ({ data := #[34] } : ByteArray)) = _; rw [p_cat, p_cat]; unfold wrT; rw [hn]; simp [bytes]
  | 8, _ => show bytes (((({ data := #[115, 101, 116, 32, 115, 101, 115, 115, 105, 111, 110, 32] } : ByteArray) ++ FU) ++ ({ data := #[32, 61, 32] } : ByteArray)) ++ QQ) = _; rw [p_cat, p_cat, p_cat, hF, hQ]; simp [bytes, wrT]


/-- The two rows of the law. -/
structure WRows (w : World) (FU QQ name v : ByteArray) (b : Nat) (w2 : World) : Prop where
  lt : b + 1 < w2.heap.size
  words : ∀ i, i < 9 → w2.cell? ⟨b, i, none⟩ = some (.string (wrS FU QQ name i))
  cmds : ∀ i, i < 9 → w2.cell? ⟨b + 1, i * 3, none⟩ = some (.int .u8 ((wrC (bytes name) (bytes v) i).kind.toNat : Nat)) ∧ w2.cell? ⟨b + 1, i * 3 + 1, none⟩ = some (.string ⟨(wrC (bytes name) (bytes v) i).name.toArray⟩) ∧ w2.cell? ⟨b + 1, i * 3 + 2, none⟩ = some (.string ⟨(wrC (bytes name) (bytes v) i).value.toArray⟩)
  below : Below w.heap.size w w2
theorem WRows.step {w w2 w3 : World} {FU QQ name v : ByteArray} {b : Nat} (h : WRows w FU QQ name v b w2) (hb : Below w2.heap.size w2 w3) : WRows w FU QQ name v b w3 := by
  have hl := h.lt
  refine ⟨Nat.lt_of_lt_of_le h.lt hb.size, fun i hi => ?_, fun i hi => ?_, h.below.step hb h.below.size⟩
  · exact (hb.cell (p := ⟨b, i, none⟩) (show b < w2.heap.size by omega)).trans (h.words i hi)
  · obtain ⟨x, y, z⟩ := h.cmds i hi
    exact ⟨(hb.cell (p := ⟨b + 1, i * 3, none⟩) hl).trans x, (hb.cell (p := ⟨b + 1, i * 3 + 1, none⟩) hl).trans y, (hb.cell (p := ⟨b + 1, i * 3 + 2, none⟩) hl).trans z⟩
theorem wrS_cell (FU QQ name : ByteArray) (w : World) (i : Nat) (h : i < 9) (u : TypeId) : (w.alloc (.cells #[.string (((({ data := #[115, 101, 116, 32] } : ByteArray) ++ FU) ++ ({ data := #[32, 116, 111, 32] } : ByteArray)) ++ QQ), .string (((({ data := #[83, 69, 84, 32, 76, 79, 67, 65, 76, 32] } : ByteArray) ++ FU) ++ ({ data := #[61] } : ByteArray)) ++ QQ), .string (({ data := #[115, 101, 116, 32, 34, 120, 34, 46, 34, 121, 34, 32, 116, 111, 32, 100, 101, 102, 97, 117, 108, 116] } : ByteArray)), .string (({ data := #[114, 101, 115, 101, 116, 32] } : ByteArray) ++ FU), .string (({ data := #[115, 104, 111, 119, 32] } : ByteArray) ++ FU), .string ((({ data := #[115, 97, 118, 101, 112, 111, 105, 110, 116, 32, 34] } : ByteArray) ++ name) ++ ({ data := #[34] } : ByteArray)), .string ((({ data := #[114, 111, 108, 108, 98, 97, 99, 107, 32, 119, 111, 114, 107, 32, 116, 111, 32, 115, 97, 118, 101, 112, 111, 105, 110, 116, 32, 34] } : ByteArray) ++ name) ++ ({ data := #[34] } : ByteArray)), .string ((({ data := #[114, 101, 108, 101, 97, 115, 101, 32, 34] } : ByteArray) ++ name) ++ ({ data := #[34] } : ByteArray)), .string (((({ data := #[115, 101, 116, 32, 115, 101, 115, 115, 105, 111, 110, 32] } : ByteArray) ++ FU) ++ ({ data := #[32, 61, 32] } : ByteArray)) ++ QQ)] u)).cell? ⟨w.heap.size, i, none⟩ = some (.string (wrS FU QQ name i)) := by
  rcases (by omega : i = 0 ∨ i = 1 ∨ i = 2 ∨ i = 3 ∨ i = 4 ∨ i = 5 ∨ i = 6 ∨ i = 7 ∨ i = 8) with rfl | rfl | rfl | rfl | rfl | rfl | rfl | rfl | rfl <;> exact World.cell?_alloc_new _ _ _ _
theorem wrC_cell (name v : ByteArray) (w : World) (i : Nat) (h : i < 9) (u : TypeId) : (w.alloc (.cells #[.int .u8 115, .string name, .string v, .int .u8 108, .string name, .string v, .int .u8 114, .string ({ data := #[120, 46, 121] } : ByteArray), .string { data := #[] }, .int .u8 114, .string name, .string { data := #[] }, .int .u8 119, .string name, .string { data := #[] }, .int .u8 112, .string name, .string { data := #[] }, .int .u8 116, .string name, .string { data := #[] }, .int .u8 101, .string name, .string { data := #[] }, .int .u8 115, .string name, .string v] u)).cell? ⟨w.heap.size, i * 3, none⟩ = some (.int .u8 ((wrC (bytes name) (bytes v) i).kind.toNat : Nat)) ∧ (w.alloc (.cells #[.int .u8 115, .string name, .string v, .int .u8 108, .string name, .string v, .int .u8 114, .string ({ data := #[120, 46, 121] } : ByteArray), .string { data := #[] }, .int .u8 114, .string name, .string { data := #[] }, .int .u8 119, .string name, .string { data := #[] }, .int .u8 112, .string name, .string { data := #[] }, .int .u8 116, .string name, .string { data := #[] }, .int .u8 101, .string name, .string { data := #[] }, .int .u8 115, .string name, .string v] u)).cell? ⟨w.heap.size, i * 3 + 1, none⟩ = some (.string ⟨(wrC (bytes name) (bytes v) i).name.toArray⟩) ∧ (w.alloc (.cells #[.int .u8 115, .string name, .string v, .int .u8 108, .string name, .string v, .int .u8 114, .string ({ data := #[120, 46, 121] } : ByteArray), .string { data := #[] }, .int .u8 114, .string name, .string { data := #[] }, .int .u8 119, .string name, .string { data := #[] }, .int .u8 112, .string name, .string { data := #[] }, .int .u8 116, .string name, .string { data := #[] }, .int .u8 101, .string name, .string { data := #[] }, .int .u8 115, .string name, .string v] u)).cell? ⟨w.heap.size, i * 3 + 2, none⟩ = some (.string ⟨(wrC (bytes name) (bytes v) i).value.toArray⟩) := by
  have e1 := wstr_back name
  have e2 := wstr_back v
  rcases (by omega : i = 0 ∨ i = 1 ∨ i = 2 ∨ i = 3 ∨ i = 4 ∨ i = 5 ∨ i = 6 ∨ i = 7 ∨ i = 8) with rfl | rfl | rfl | rfl | rfl | rfl | rfl | rfl | rfl <;>
    (simp only [wrC, e1, e2]; exact ⟨World.cell?_alloc_new _ _ _ _, World.cell?_alloc_new _ _ _ _, World.cell?_alloc_new _ _ _ _⟩)
theorem WRows.start {w w1 : World} (FU QQ name v : ByteArray) (hB : Below w.heap.size w w1) (u x : TypeId) : WRows w FU QQ name v w1.heap.size ((w1.alloc (.cells #[.string (((({ data := #[115, 101, 116, 32] } : ByteArray) ++ FU) ++ ({ data := #[32, 116, 111, 32] } : ByteArray)) ++ QQ), .string (((({ data := #[83, 69, 84, 32, 76, 79, 67, 65, 76, 32] } : ByteArray) ++ FU) ++ ({ data := #[61] } : ByteArray)) ++ QQ), .string (({ data := #[115, 101, 116, 32, 34, 120, 34, 46, 34, 121, 34, 32, 116, 111, 32, 100, 101, 102, 97, 117, 108, 116] } : ByteArray)), .string (({ data := #[114, 101, 115, 101, 116, 32] } : ByteArray) ++ FU), .string (({ data := #[115, 104, 111, 119, 32] } : ByteArray) ++ FU), .string ((({ data := #[115, 97, 118, 101, 112, 111, 105, 110, 116, 32, 34] } : ByteArray) ++ name) ++ ({ data := #[34] } : ByteArray)), .string ((({ data := #[114, 111, 108, 108, 98, 97, 99, 107, 32, 119, 111, 114, 107, 32, 116, 111, 32, 115, 97, 118, 101, 112, 111, 105, 110, 116, 32, 34] } : ByteArray) ++ name) ++ ({ data := #[34] } : ByteArray)), .string ((({ data := #[114, 101, 108, 101, 97, 115, 101, 32, 34] } : ByteArray) ++ name) ++ ({ data := #[34] } : ByteArray)), .string (((({ data := #[115, 101, 116, 32, 115, 101, 115, 115, 105, 111, 110, 32] } : ByteArray) ++ FU) ++ ({ data := #[32, 61, 32] } : ByteArray)) ++ QQ)] u)).alloc (.cells #[.int .u8 115, .string name, .string v, .int .u8 108, .string name, .string v, .int .u8 114, .string ({ data := #[120, 46, 121] } : ByteArray), .string { data := #[] }, .int .u8 114, .string name, .string { data := #[] }, .int .u8 119, .string name, .string { data := #[] }, .int .u8 112, .string name, .string { data := #[] }, .int .u8 116, .string name, .string { data := #[] }, .int .u8 101, .string name, .string { data := #[] }, .int .u8 115, .string name, .string v] x)) := by
  refine ⟨by simp, fun i hi => ?_, fun i hi => ?_, (hB.alloc hB.size _).alloc (by simp; have := hB.size; omega) _⟩
  · exact Lib.cell?_alloc_some _ (wrS_cell FU QQ name w1 i hi u)
  · have := wrC_cell name v (w1.alloc (.cells #[.string (((({ data := #[115, 101, 116, 32] } : ByteArray) ++ FU) ++ ({ data := #[32, 116, 111, 32] } : ByteArray)) ++ QQ), .string (((({ data := #[83, 69, 84, 32, 76, 79, 67, 65, 76, 32] } : ByteArray) ++ FU) ++ ({ data := #[61] } : ByteArray)) ++ QQ), .string (({ data := #[115, 101, 116, 32, 34, 120, 34, 46, 34, 121, 34, 32, 116, 111, 32, 100, 101, 102, 97, 117, 108, 116] } : ByteArray)), .string (({ data := #[114, 101, 115, 101, 116, 32] } : ByteArray) ++ FU), .string (({ data := #[115, 104, 111, 119, 32] } : ByteArray) ++ FU), .string ((({ data := #[115, 97, 118, 101, 112, 111, 105, 110, 116, 32, 34] } : ByteArray) ++ name) ++ ({ data := #[34] } : ByteArray)), .string ((({ data := #[114, 111, 108, 108, 98, 97, 99, 107, 32, 119, 111, 114, 107, 32, 116, 111, 32, 115, 97, 118, 101, 112, 111, 105, 110, 116, 32, 34] } : ByteArray) ++ name) ++ ({ data := #[34] } : ByteArray)), .string ((({ data := #[114, 101, 108, 101, 97, 115, 101, 32, 34] } : ByteArray) ++ name) ++ ({ data := #[34] } : ByteArray)), .string (((({ data := #[115, 101, 116, 32, 115, 101, 115, 115, 105, 111, 110, 32] } : ByteArray) ++ FU) ++ ({ data := #[32, 61, 32] } : ByteArray)) ++ QQ)] u)) i hi x
    rwa [World.size_alloc] at this

set_option maxRecDepth 100000 in
set_option maxHeartbeats 16000000 in
theorem writes_short (name v : ByteArray) (which : Int) (m : Int) (w : World) (hln : (name.size : Int) + v.size ≤ 300) (h1 : -9223372036854775808 ≤ which) (h2 : which ≤ 9223372036854775807) (hg : goodB (bytes name) = true) (hm : w.cell? ⟨2, 0, none⟩ = some (.int .i64 m)) (hbar : BarredAt w) (htk : TakenAt w) :
    Calls Tryd.prog 5 #[.string name, .string v, .int .i64 which] w fun e w' => e = .returned (.bool true) ∧ Below w.heap.size w w' := by
  have HW0 := Lib.hid (World.block_lt_of_cell? w ⟨2, 0, none⟩ hm)
  have HSH := Lib.hid (shown9_true m w hm hbar)
  have HM := Lib.hid (fun (W : World) (h : Below w.heap.size w W) => (h.cell (p := ⟨2, 0, none⟩) (World.block_lt_of_cell? w ⟨2, 0, none⟩ hm)).trans hm)
  have HP := Lib.hid (fun (S : ByteArray) (W : World) h1 (h : Below w.heap.size w W) => parse_any S m W h1 (HM.out W h) (hbar.step h))
  have HGD := Lib.hid (fun (W : World) (h : Below w.heap.size w W) => good_any name m W (by omega) (HM.out W h))
  have HID := Lib.hid (fun (S : ByteArray) (W : World) h1 (h : Below w.heap.size w W) => ident_any S m W h1 (HM.out W h) (htk.step h))
  have HLI := Lib.hid (fun (W : World) (h : Below w.heap.size w W) => literal_any v m W (by omega) (HM.out W h))
  rw [hg] at HGD
  have hdd : decide ((300 : Int) < (name.size : Int) + v.size) = false := by simp; omega
  have HG := Lib.hid hg
  clear hm hbar htk hg HM
  go_enter Tryd.func5, Tryd.ntmps5
  go_wp2_with fail
  refine HSH.out.mono ?_; rintro e w1 ⟨rfl, hb1⟩
  have HB1 := Lib.hid hb1
  clear hb1 HSH
  go_wp2_with fail
  refine (HGD.out w1 HB1.out).mono ?_; rintro e w2 ⟨rfl, hd2⟩
  have HB2 := Lib.hid (HB1.out.step (below_drew hd2) HB1.out.size)
  clear hd2 HB1 HGD
  go_wp2_with fail
  go_loopg [8] v.size (fun g vv wr => ∃ k : Nat, vv = .int .i64 k ∧ k ≤ v.size ∧ g = v.size - k ∧ wr = w2 ∧ ∀ i : Nat, i < k → (bytes v)[i]? ≠ some 0)
  case atStart => exact ⟨0, rfl, Nat.zero_le _, rfl, rfl, fun i h => absurd h (Nat.not_lt_zero _)⟩
  case round =>
    obtain ⟨k, rfl, hk, hgk, rfl, ho⟩ := hrel
    have HO := Lib.hid ho; have HGK := Lib.hid hgk
    clear ho hgk
    by_cases hlt : k < v.size
    · have hlt' : (k : Int) < (v.size : Int) := by omega
      have hgx : (bytes v)[k]? = some v[k] := by
        rw [List.getElem?_eq_getElem (by rw [bytes_len]; exact hlt)]; rfl
      by_cases hc : v[k] = 0
      · have hc2 : ((v[k].toNat : Int) == 0) = true := by rw [hc]; rfl
        clear hc hgx
        go_wp2_with fail
        go_ret
        exact ⟨rfl, HB2.out⟩
      · have hc2 : ((v[k].toNat : Int) == 0) = false := by
          rw [beq_eq_false_iff_ne]
          intro e
          exact hc (UInt8.toNat_inj.1 (show v[k].toNat = (0 : UInt8).toNat from by have : ((0 : UInt8).toNat : Int) = 0 := rfl; omega))
        have HN := Lib.hid (show ∀ i : Nat, i < k + 1 → (bytes v)[i]? ≠ some 0 from fun i hi => by
          rcases Nat.lt_succ_iff_lt_or_eq.1 hi with h | rfl
          · exact HO.out i h
          · rw [hgx]; exact fun e => hc (Option.some.inj e))
        clear hc hgx
        go_wp2_with fail
        go_roundg (v.size - (k + 1))
        case measure => have := HGK.out; omega
        case rel => exact ⟨k + 1, by go_num, by omega, rfl, rfl, HN.out⟩
    · obtain rfl : k = v.size := by omega
      have hno : (0 : UInt8) ∉ bytes v := fun hm => by
        obtain ⟨i, hi, he⟩ := List.mem_iff_getElem.1 hm
        have hi' := hi; rw [bytes_len] at hi'
        exact HO.out i hi' (by rw [List.getElem?_eq_getElem hi, he])
      have HZ := Lib.hid hno
      clear hno HO HGK hlt hdd
      go_upto_block 2 with (fail)
      go_cut [9] (fun s wx => ∃ FU : ByteArray, s = .string FU ∧ bytes FU = fullB (bytes name) ∧ Below w.heap.size w wx)
      case first =>
        go_wp2_with fail
        go_loopg [9, 10, 11] (name.size + 1) (fun g s9 s10 s11 wx => ∃ (k f : Nat) (FU : ByteArray), s9 = .string FU ∧ s10 = .int .i64 f ∧ s11 = .int .i64 k ∧ k ≤ name.size + 1 ∧ f ≤ k ∧ FP (bytes name) f (bytes FU) ∧ FU.size ≤ 1000 ∧ (f = 0 → ∀ i, i < k → (bytes name)[i]? ≠ some 46) ∧ (k = name.size + 1 → f = name.size + 1) ∧ g = name.size + 1 - k ∧ Below w.heap.size w wx)
        case atStart => exact ⟨0, 0, { data := #[] }, rfl, rfl, rfl, by omega, Nat.le_refl _, .inl ⟨rfl, rfl⟩, by decide, fun _ i h => absurd h (Nat.not_lt_zero _), by omega, rfl, HB2.out⟩
        case round =>
          obtain ⟨k, f, FU, rfl, rfl, rfl, hk, hfk, hfp, hfs, hf0, hke, hgk, hB3⟩ := hrel
          have HFP := Lib.hid hfp; have HF0 := Lib.hid hf0; have HKE := Lib.hid hke; have HGK := Lib.hid hgk; have HB3 := Lib.hid hB3
          clear hfp hf0 hke hgk hB3
          by_cases hlt : k < name.size
          · have hlt' : (k : Int) < (name.size : Int) := by omega
            have hle' : (k : Int) ≤ (name.size : Int) := by omega
            have hne' : ((k : Int) == (name.size : Int)) = false := by simp; omega
            have hgx : (bytes name)[k]? = some name[k] := by
              rw [List.getElem?_eq_getElem (by rw [bytes_len]; exact hlt)]; rfl
            by_cases hc : name[k] = 46
            · have hc2 : ((name[k].toNat : Int) == 46) = true := by rw [hc]; rfl
              rw [hc] at hgx
              obtain ⟨hf, hF⟩ := fp_zero HFP.out hfk hgx
              have HDOT := Lib.hid (fp_dot HG.out hgx (HF0.out hf))
              obtain rfl : FU = { data := #[] } := by rw [← wstr_back FU, hF]
              subst hf
              have HE := Lib.hid (show bytes (name.extract 0 k) = (bytes name).take k by rw [p_ext]; simp)
              clear hc hgx hF HFP HF0
              go_wp2_with fail
              refine (HID.out (name.extract 0 k) _ (by rw [ByteArray.size_extract]; omega) HB3.out).mono ?_; rintro e w4 ⟨rfl, hb4⟩
              have HB4 := Lib.hid (HB3.out.step hb4 HB3.out.size)
              rw [HE.out]
              obtain ⟨I, hI⟩ : ∃ I : ByteArray, I = ⟨(identB ((bytes name).take k)).toArray⟩ := ⟨_, rfl⟩
              rw [← hI]
              have HIB := Lib.hid (show bytes I = identB ((bytes name).take k) by rw [hI])
              have his : I.size ≤ 602 := by have := ident_length ((bytes name).take k); rw [← HIB.out, bytes_len, List.length_take, bytes_len] at this; omega
              clear hb4 hI HB3
              go_wp2_with fail
              go_roundg (name.size + 1 - (k + 1))
              case measure => have := HGK.out; omega
              case rel => exact ⟨k + 1, k + 1, I, by first | rfl | (congr 1; apply ByteArray.ext; simp), by go_num, by go_num, by omega, Nat.le_refl _, by rw [HIB.out]; exact HDOT.out, by omega, fun h => by omega, fun h => by omega, rfl, HB4.out⟩
            · have hc2 : ((name[k].toNat : Int) == 46) = false := by
                rw [beq_eq_false_iff_ne]
                intro e
                exact hc (UInt8.toNat_inj.1 (show name[k].toNat = (46 : UInt8).toNat from by have : ((46 : UInt8).toNat : Int) = 46 := rfl; omega))
              have HN := Lib.hid (show f = 0 → ∀ i : Nat, i < k + 1 → (bytes name)[i]? ≠ some 46 from fun h0 i hi => by
                rcases Nat.lt_succ_iff_lt_or_eq.1 hi with h | rfl
                · exact HF0.out h0 i h
                · rw [hgx]; exact fun e => hc (Option.some.inj e))
              clear hc hgx
              go_wp2_with fail
              go_roundg (name.size + 1 - (k + 1))
              case measure => have := HGK.out; omega
              case rel => exact ⟨k + 1, f, FU, rfl, rfl, by go_num, by omega, by omega, HFP.out, hfs, HN.out, fun h => by omega, rfl, HB3.out⟩
          · by_cases heq : k = name.size
            · subst heq
              have hle' : (name.size : Int) ≤ (name.size : Int) := Int.le_refl _
              rcases fp_end HFP.out (by rw [bytes_len]; exact hfk) (fun h => by rw [bytes_len]; exact HF0.out h) with ⟨hf, hF, hfu⟩ | ⟨hf, hfu⟩
              · obtain rfl : FU = { data := #[] } := by rw [← wstr_back FU, hF]
                subst hf
                rw [List.take_length] at hfu
                have HFU := Lib.hid hfu
                clear hF hfu HFP HF0
                go_wp2_with fail
                refine (HID.out name _ (by omega) HB3.out).mono ?_; rintro e w4 ⟨rfl, hb4⟩
                have HB4 := Lib.hid (HB3.out.step hb4 HB3.out.size)
                rw [HFU.out]
                obtain ⟨I, hI⟩ : ∃ I : ByteArray, I = ⟨(fullB (bytes name)).toArray⟩ := ⟨_, rfl⟩
                rw [← hI]
                have HIB := Lib.hid (show bytes I = fullB (bytes name) by rw [hI])
                have his : I.size ≤ 700 := by have := full_length (bytes name); rw [← HIB.out, bytes_len, bytes_len] at this; omega
                clear hb4 hI HB3
                go_wp2_with fail
                go_roundg 0
                case measure => have := HGK.out; omega
                case rel => exact ⟨name.size + 1, name.size + 1, I, by first | rfl | (congr 1; apply ByteArray.ext; simp), by go_num, by go_num, by omega, Nat.le_refl _, by rw [HIB.out]; exact .inr (.inr ⟨by rw [bytes_len], rfl⟩), by omega, fun h => by omega, fun h => rfl, by omega, HB4.out⟩
              · have HE := Lib.hid (show bytes (name.extract f name.size) = (bytes name).drop f by rw [p_ext]; rw [List.take_of_length_le (by rw [List.length_drop, bytes_len]; omega)])
                have HFU := Lib.hid hfu
                have hf1 : (0 : Int) < f := by omega
                have hf2 : (f : Int) ≤ name.size := by omega
                clear hfu HFP HF0
                go_wp2_with fail
                refine (HID.out (name.extract f name.size) _ (by rw [ByteArray.size_extract]; omega) HB3.out).mono ?_; rintro e w4 ⟨rfl, hb4⟩
                have HB4 := Lib.hid (HB3.out.step hb4 HB3.out.size)
                rw [HE.out]
                obtain ⟨I, hI⟩ : ∃ I : ByteArray, I = ⟨(identB ((bytes name).drop f)).toArray⟩ := ⟨_, rfl⟩
                rw [← hI]
                have HIB := Lib.hid (show bytes I = identB ((bytes name).drop f) by rw [hI])
                have his : I.size ≤ 602 := by have := ident_length ((bytes name).drop f); rw [← HIB.out, bytes_len, List.length_drop, bytes_len] at this; omega
                have HFF := Lib.hid (show bytes ((FU ++ ({ data := #[46] } : ByteArray)) ++ I) = fullB (bytes name) by rw [p_cat, p_cat, HIB.out, ← HFU.out]; simp [bytes])
                have hzz : ((FU ++ ({ data := #[46] } : ByteArray)) ++ I).size ≤ 1000 := by have := full_length (bytes name); rw [← HFF.out, bytes_len, bytes_len] at this; omega
                have HZZ := Lib.hid hzz
                clear hb4 hI HB3 hzz
                go_wp2_with fail
                go_roundg 0
                case measure => have := HGK.out; omega
                case rel => exact ⟨name.size + 1, name.size + 1, _, rfl, by go_num, by go_num, by omega, Nat.le_refl _, by rw [HFF.out]; exact .inr (.inr ⟨by rw [bytes_len], rfl⟩), HZZ.out, fun h => by omega, fun h => rfl, by omega, HB4.out⟩
            · obtain rfl : k = name.size + 1 := by omega
              have hgt : (name.size : Int) < ((name.size + 1 : Nat) : Int) := by omega
              have hf := HKE.out rfl
              have HFU := Lib.hid (show bytes FU = fullB (bytes name) by
                rcases HFP.out with ⟨h, _⟩ | ⟨a, b, hn, _, _, h, _⟩ | ⟨_, h⟩
                · omega
                · exfalso
                  have := congrArg List.length hn
                  rw [bytes_len] at this
                  simp at this; omega
                · exact h)
              clear hf
              go_wp2_with fail
              go_meet
              exact ⟨FU, rfl, HFU.out, HB3.out⟩
      case rest =>
      obtain ⟨FU, rfl, hfu, hB3⟩ := hcut
      have HFU := Lib.hid hfu
      have hfs : FU.size ≤ 604 := by have := full_length (bytes name); rw [← hfu, bytes_len, bytes_len] at this; omega
      have HB3 := Lib.hid hB3
      clear hfu hB3 HID
      go_wp2_with fail
      refine (HLI.out wc HB3.out).mono ?_; rintro e w4 ⟨rfl, hb4⟩
      have HB4 := Lib.hid (HB3.out.step hb4 HB3.out.size)
      obtain ⟨QQ, hQ⟩ : ∃ QQ : ByteArray, QQ = ⟨(quoted 39 (bytes v)).toArray⟩ := ⟨_, rfl⟩
      rw [← hQ] at HLI ⊢
      have HQB := Lib.hid (show bytes QQ = quoted 39 (bytes v) by rw [hQ])
      have hqs : QQ.size ≤ 602 := by have := quoted_length 39 (bytes v); rw [← HQB.out, bytes_len, bytes_len] at this; omega
      clear hb4 hQ HB3
      go_wp2_with fail
      refine (HLI.out w4 HB4.out).mono ?_; rintro e w5 ⟨rfl, hb5⟩
      have HB5 := Lib.hid (HB4.out.step hb5 HB4.out.size)
      clear hb5 HB4
      go_wp2_with fail
      refine (HLI.out w5 HB5.out).mono ?_; rintro e w6 ⟨rfl, hb6⟩
      have HB6 := Lib.hid (HB5.out.step hb6 HB5.out.size)
      clear hb6 HB5 HLI
      go_upto_if 128 with (fail)
      have HT := Lib.hid (WRows.start FU QQ name v HB6.out 9 27)
      generalize (w6.alloc (Obj.cells #[.string (((({ data := #[115, 101, 116, 32] } : ByteArray) ++ FU) ++ ({ data := #[32, 116, 111, 32] } : ByteArray)) ++ QQ), .string (((({ data := #[83, 69, 84, 32, 76, 79, 67, 65, 76, 32] } : ByteArray) ++ FU) ++ ({ data := #[61] } : ByteArray)) ++ QQ), .string (({ data := #[115, 101, 116, 32, 34, 120, 34, 46, 34, 121, 34, 32, 116, 111, 32, 100, 101, 102, 97, 117, 108, 116] } : ByteArray)), .string (({ data := #[114, 101, 115, 101, 116, 32] } : ByteArray) ++ FU), .string (({ data := #[115, 104, 111, 119, 32] } : ByteArray) ++ FU), .string ((({ data := #[115, 97, 118, 101, 112, 111, 105, 110, 116, 32, 34] } : ByteArray) ++ name) ++ ({ data := #[34] } : ByteArray)), .string ((({ data := #[114, 111, 108, 108, 98, 97, 99, 107, 32, 119, 111, 114, 107, 32, 116, 111, 32, 115, 97, 118, 101, 112, 111, 105, 110, 116, 32, 34] } : ByteArray) ++ name) ++ ({ data := #[34] } : ByteArray)), .string ((({ data := #[114, 101, 108, 101, 97, 115, 101, 32, 34] } : ByteArray) ++ name) ++ ({ data := #[34] } : ByteArray)), .string (((({ data := #[115, 101, 116, 32, 115, 101, 115, 115, 105, 111, 110, 32] } : ByteArray) ++ FU) ++ ({ data := #[32, 61, 32] } : ByteArray)) ++ QQ)] 9)).alloc (Obj.cells #[.int .u8 115, .string name, .string v, .int .u8 108, .string name, .string v, .int .u8 114, .string ({ data := #[120, 46, 121] } : ByteArray), .string { data := #[] }, .int .u8 114, .string name, .string { data := #[] }, .int .u8 119, .string name, .string { data := #[] }, .int .u8 112, .string name, .string { data := #[] }, .int .u8 116, .string name, .string { data := #[] }, .int .u8 101, .string name, .string { data := #[] }, .int .u8 115, .string name, .string v] 27) = w7 at HT ⊢
      go_cut [14] (fun s wx => ∃ I : Int, s = .int .i64 I ∧ 0 ≤ I ∧ I ≤ 9223372036854775807 ∧ w7 = wx)
      case first =>
        go_wp2_with fail
        all_goals go_meet
        all_goals exact ⟨_, rfl, by omega, by omega, rfl⟩
      case rest =>
      obtain ⟨I, rfl, hI0, hI9, rfl⟩ := hcut
      have hi9 : (I % 9).toNat < 9 := by omega
      have q0 : 0 ≤ I % 9 := by omega
      have q1 : I % 9 < 9 := by omega
      have HXW := Lib.hid (fun W (h : WRows w FU QQ name v w6.heap.size W) => h.words _ hi9)
      have HXC := Lib.hid (fun W (h : WRows w FU QQ name v w6.heap.size W) => h.cmds _ hi9)
      have hsb := wrS_bytes FU QQ name v HFU.out HQB.out HG.out _ hi9
      have hwp := wr_parsed (name := bytes name) (v := bytes v) HG.out HZ.out (by rw [bytes_len, bytes_len]; omega) _ hi9
      have hsz : (wrS FU QQ name (I % 9).toNat).size ≤ 2000 := by rw [← bytes_len, hsb]; have := wr_length (bytes name) (bytes v) _ hi9; rw [bytes_len, bytes_len] at this; omega
      have hp := HP.out (wrS FU QQ name (I % 9).toNat) w7 hsz HT.out.below
      rw [hsb, hwp] at hp
      have HPP := Lib.hid hp
      generalize wrS FU QQ name (I % 9).toNat = S at HXW HPP
      generalize wrC (bytes name) (bytes v) (I % 9).toNat = cm at HXC HPP
      unfold Cmd.val at HPP
      have d1 := HXW.out _ HT.out
      clear hp hsz hsb hwp hi9 HP
      go_wp2_with fail
      refine HPP.out.mono ?_; rintro e w8 ⟨rfl, hb8⟩
      have HT8 := Lib.hid (HT.out.step hb8)
      clear hb8 HT HPP d1
      go_upto_region 25 with (fail)
      have HT9 := Lib.hid (HT8.out.step ((Below.refl _ w8).alloc (Nat.le_refl _) (.cells #[.int .u8 (cm.kind.toNat : Nat), .string ⟨cm.name.toArray⟩, .string ⟨cm.value.toArray⟩] 27)))
      have e0 := World.cell?_alloc_new w8 #[.int .u8 (cm.kind.toNat : Nat), .string ⟨cm.name.toArray⟩, .string ⟨cm.value.toArray⟩] 27 0
      have e1 := World.cell?_alloc_new w8 #[.int .u8 (cm.kind.toNat : Nat), .string ⟨cm.name.toArray⟩, .string ⟨cm.value.toArray⟩] 27 1
      have e2 := World.cell?_alloc_new w8 #[.int .u8 (cm.kind.toNat : Nat), .string ⟨cm.name.toArray⟩, .string ⟨cm.value.toArray⟩] 27 2
      generalize w8.alloc (Obj.cells #[.int .u8 (cm.kind.toNat : Nat), .string ⟨cm.name.toArray⟩, .string ⟨cm.value.toArray⟩] 27) = w9 at HT9 e0 e1 e2 ⊢
      replace e0 : w9.cell? ⟨w8.heap.size, 0, none⟩ = some (.int .u8 (cm.kind.toNat : Nat)) := e0
      replace e1 : w9.cell? ⟨w8.heap.size, 1, none⟩ = some (.string ⟨cm.name.toArray⟩) := e1
      replace e2 : w9.cell? ⟨w8.heap.size, 2, none⟩ = some (.string ⟨cm.value.toArray⟩) := e2
      obtain ⟨g0, g1, g2⟩ := HXC.out _ HT9.out
      have q4 : I.tmod 9 = I % 9 := Int.tmod_eq_emod_of_nonneg hI0
      go_quiet (fail)
      have HTX := Lib.hid (HT9.out.step (below_drewN (Below.refl _ w9) nq))
      generalize w9.drewN nq = wz at HTX ⊢
      clear q4 e0 e1 e2 g0 g1 g2
      go_wp2_with fail
      go_ret
      exact ⟨rfl, HTX.out.below⟩

set_option maxRecDepth 100000 in
set_option maxHeartbeats 1000000 in
theorem writes_long (name v : ByteArray) (which : Int) (m : Int) (w : World) (_hz1 : name.size ≤ 140737488351232) (_hz2 : v.size ≤ 140737488351232) (hln : (300 : Int) < (name.size : Int) + v.size) (hm : w.cell? ⟨2, 0, none⟩ = some (.int .i64 m)) (hbar : BarredAt w) :
    Calls Tryd.prog 5 #[.string name, .string v, .int .i64 which] w fun e w' => e = .returned (.bool true) ∧ Below w.heap.size w w' := by
  have HSH := Lib.hid (shown9_true m w hm hbar)
  clear hm hbar
  go_enter Tryd.func5, Tryd.ntmps5
  go_wp2_with fail
  refine HSH.out.mono ?_; rintro e w1 ⟨rfl, hb1⟩
  go_wp2_with fail
  go_ret
  exact ⟨rfl, hb1⟩

set_option maxRecDepth 100000 in
set_option maxHeartbeats 1000000 in
theorem writes_bad (name v : ByteArray) (which : Int) (m : Int) (w : World) (hln : (name.size : Int) + v.size ≤ 300) (hg : goodB (bytes name) = false) (hm : w.cell? ⟨2, 0, none⟩ = some (.int .i64 m)) (hbar : BarredAt w) :
    Calls Tryd.prog 5 #[.string name, .string v, .int .i64 which] w fun e w' => e = .returned (.bool true) ∧ Below w.heap.size w w' := by
  have HSH := Lib.hid (shown9_true m w hm hbar)
  have HGD := Lib.hid (fun (W : World) (h : Below w.heap.size w W) => good_any name m W (by omega) ((h.cell (p := ⟨2, 0, none⟩) (World.block_lt_of_cell? w ⟨2, 0, none⟩ hm)).trans hm))
  rw [hg] at HGD
  clear hm hbar hg
  go_enter Tryd.func5, Tryd.ntmps5
  go_wp2_with fail
  refine HSH.out.mono ?_; rintro e w1 ⟨rfl, hb1⟩
  have HB1 := Lib.hid hb1
  clear hb1
  go_wp2_with fail
  refine (HGD.out w1 HB1.out).mono ?_; rintro e w2 ⟨rfl, hd2⟩
  have HB2 := Lib.hid (HB1.out.step (below_drew hd2) HB1.out.size)
  clear hd2
  go_wp2_with fail
  go_ret
  exact ⟨rfl, HB2.out⟩

theorem writes_walk (name v : ByteArray) (which : Int) (m : Int) (w : World) (hz1 : name.size ≤ 140737488351232) (hz2 : v.size ≤ 140737488351232) (h1 : -9223372036854775808 ≤ which ∧ which ≤ 9223372036854775807) (hm : w.cell? ⟨2, 0, none⟩ = some (.int .i64 m)) (hbar : BarredAt w) (htk : TakenAt w) :
    Calls Tryd.prog 5 #[.string name, .string v, .int .i64 which] w fun e w' => e = .returned (.bool true) ∧ Below w.heap.size w w' := by
  by_cases h : (300 : Int) < (name.size : Int) + v.size
  · exact writes_long name v which m w hz1 hz2 h hm hbar
  · cases hg : goodB (bytes name) with
    | false => exact writes_bad name v which m w (by omega) hg hm hbar
    | true => exact writes_short name v which m w (by omega) h1.1 h1.2 hg hm hbar htk

set_option maxRecDepth 100000 in
theorem writes_lifted (os : Os) (started : os.Started) (H : Type) (enc : TypeId × Value → H) :
    ReturnsInHanded {} Tryd.checked os 5 .any (fun w args => (Rows.parseWritesSpec.pre enc Tryd.prog Tryd.f5 Rows.parseWritesRow.domain false w args ∧ laidMetH Tryd.prog [("unicode/utf8.acceptRanges", Rows.laid_unicode_utf8_acceptRanges), ("taxirank/names.taken", Rows.laid_taxirank_names_taken), ("taxirank/parse.barred", Rows.laid_taxirank_parse_barred), ("unicode/utf8.first", Rows.laid_unicode_utf8_first)] w) ∧ sizedMet enc Tryd.prog Tryd.f5 (OpenSpec.ofChange Rows.parseWritesSpec) false w args) (Rows.parseWritesSpec.post enc Tryd.prog Tryd.f5 false true false false) := by
  refine handed_laid (C := Tryd.checked) (X := fun w _ => laidMetH Tryd.prog [("unicode/utf8.acceptRanges", Rows.laid_unicode_utf8_acceptRanges), ("taxirank/names.taken", Rows.laid_taxirank_names_taken), ("taxirank/parse.barred", Rows.laid_taxirank_parse_barred), ("unicode/utf8.first", Rows.laid_unicode_utf8_first)] w) (fun _ _ _ hh h => h.of_heap hh) own started (by kernel_rfl) Tryd.func5
    (ChangeSpec.witness_shaped (enc := enc) (C := Tryd.checked) (os := os) (X := fun w _ => laidMetH Tryd.prog [("unicode/utf8.acceptRanges", Rows.laid_unicode_utf8_acceptRanges), ("taxirank/names.taken", Rows.laid_taxirank_names_taken), ("taxirank/parse.barred", Rows.laid_taxirank_parse_barred), ("unicode/utf8.first", Rows.laid_unicode_utf8_first)] w) false (World.laidAll Tryd.prog os [("unicode/utf8.acceptRanges", Rows.laid_unicode_utf8_acceptRanges), ("taxirank/names.taken", Rows.laid_taxirank_names_taken), ("taxirank/parse.barred", Rows.laid_taxirank_parse_barred), ("unicode/utf8.first", Rows.laid_unicode_utf8_first)]) #[.string { data := #[] }, .string { data := #[] }, .int .i64 0] 8 (World.laidAll_os _ _ _) (World.shaped_of_ZipB (by kernel_rfl) (by kernel_rfl)) (by kernel_rfl) (by kernel_rfl) (by kernel_rfl)
      (by rw [MakeChecks.laidMetH_plain _ _ _ (by kernel_rfl)]; exact laidMet_laidAll _ (by kernel_rfl) (by kernel_rfl))) ?_
  intro W base args ds gs before hval0 hW hsz0 hsh hL
  obtain ⟨m, hm⟩ : ∃ m, W.cell? ⟨2, 0, none⟩ = some (.int .i64 m) := Tryd.laysM143.s1_3 W hsh
  have hbar := barred_of_four hL
  have htk := taken_of_four hL
  have hsz : (DataW.weightsEach Tryd.prog (Tryd.f5.params.toList ++ Rows.parseWritesSpec.plain.varTypes Tryd.prog) (ds ++ gs)).all (· ≤ reachBytes) = true := hsz0
  clear hsz0
  have hval : ∀ (j : Nat) t v, Tryd.f5.params[j]? = some t → args[j]? = some v → Value.okWide Tryd.prog W .any base t v := hval0
  have hW' := hW
  obtain ⟨p, q, hA0, hV, rfl, _, _⟩ := hW
  have hA : DataW.TrodAll enc Tryd.prog W 0 (fun _ => true) true Tryd.f5.params.toList args.toList ds p := hA0
  rw [Tryd.params5] at hA hval hsz
  obtain ⟨v0, v1, v2, d0, d1, d2, p0, p1, p2, rfl, rfl, rfl, h0, h1, h2⟩ := trodAll_three hA
  obtain ⟨rfl, rfl⟩ := trodVars_none hV
  obtain ⟨name, rfl, rfl, rfl, hl_name⟩ := Go.ChangeMaps.open_string Tryd.underlying9 (hval 0 9 v0 rfl rfl) h0
  have hz_name : name.size ≤ 140737488351232 := by have := sized_string hsz (j := 0) (t := 9) rfl rfl; rw [size_list] at this; exact this
  obtain ⟨v, rfl, rfl, rfl, hl_v⟩ := Go.ChangeMaps.open_string Tryd.underlying9 (hval 1 9 v1 rfl rfl) h1
  have hz_v : v.size ≤ 140737488351232 := by have := sized_string hsz (j := 1) (t := 9) rfl rfl; rw [size_list] at this; exact this
  obtain ⟨which, rfl, rfl, rfl, wf_which⟩ := open_int Tryd.underlying3 (hval 2 3 v2 rfl rfl) h2
  have h_which := int_range wf_which
  refine (writes_walk name v which m W hz_name hz_v h_which hm hbar htk).mono fun e W' ⟨he, hb⟩ => ?_
  subst he
  exact ⟨_, rfl, law_shut laidOut (by kernel_rfl) (by kernel_rfl) Tryd.underlying4 rfl hW' rfl hb⟩

theorem writes_holds : Rows.ParseWritesSaid :=
  OpenClaim.holds_of_wide 5 Tryd.f5 rfl rfl rfl rfl rfl rfl rfl ⟨rfl, rfl, rfl, rfl, rfl⟩ rfl rfl rfl rfl rfl (by kernel_rfl) Tryd.func5 (by kernel_rfl)
    (of_decide_eq_true (by kernel_rfl)) (by unfold Func.isWrapper; rw [if_neg (of_decide_eq_false (by kernel_rfl))]; exact ⟨rfl, rfl⟩)
    (fun os started H enc _ => writes_lifted os started H enc)

theorem writes_card : Rows.ParseWritesCardSaid :=
  Claim7.holds_tied_plain_at .later [] [.data, .data, .data, .pinned] true _ false writes_holds (fun _ h => by cases h) (by kernel_rfl) (fun _ h => by cases h) parseWrites_row_tie rfl ⟨rfl, rfl⟩ (by kernel_rfl) rfl
    (fun f fn hf hfn => by
      obtain rfl : f = 5 := Option.some.inj ((show Tryd.prog.funcNamed "taxirank/taxiranklaw9.ParseWrites" = some 5 by kernel_rfl).symm.trans hf) |>.symm
      obtain rfl : fn = Tryd.f5 := (Option.some.inj (Tryd.func5.symm.trans hfn)).symm
      exact ⟨by kernel_rfl, fun j t ht => by
        rw [Tryd.params5] at ht
        have hm : t ∈ [9, 9, 3] := by simpa using Array.mem_of_getElem? ht
        have hall : ([9, 9, 3].all fun u => !Tryd.prog.wantsStandIn u) = true := by kernel_rfl
        exact (show Tryd.prog.wantsStandIn t = false by simpa using List.all_eq_true.1 hall t hm)⟩)
    (by kernel_rfl)
end Go.Proofs.YtgopajddloeclaaDoor
