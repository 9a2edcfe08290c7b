/- A savepoint's name is what its word, or its name in quotes, says; with anything behind it there is none: ParseSavepoints answers true, and leaves what was there as it was. (Over the listed variables, tied to the program's text.) -/
import Derived.Test.YtgopajddloeclaaDoorZ12
import Derived.Test.YtgopajddloeclaaDoorZ25
import Derived.Test.YtgopajddloeclaaDoorLPSaveM
import Derived.Test.YtgopajddloeclaaDoorLFieldsA
import Derived.Deep.DeepCutAuto
import Derived.Deep.LoopGhost
import Derived.BigQuiet
import Derived.Deep.QuietTactic
namespace Go.Proofs.YtgopajddloeclaaDoor
open Go.RowKit Go.Lib Go.WideShapes Go.ChangeShapes Go.ChangeAt Go.Joins

def svWS : Nat → ByteArray
  | 0 => { data := #[115, 97, 118, 101, 112, 111, 105, 110, 116] }
  | 1 => { data := #[114, 101, 108, 101, 97, 115, 101] }
  | 2 => { data := #[114, 101, 108, 101, 97, 115, 101, 32, 115, 97, 118, 101, 112, 111, 105, 110, 116] }
  | 3 => { data := #[114, 111, 108, 108, 98, 97, 99, 107, 32, 116, 111] }
  | _ => { data := #[97, 98, 111, 114, 116, 32, 119, 111, 114, 107, 32, 116, 111, 32, 115, 97, 118, 101, 112, 111, 105, 110, 116] }
def svFS : Nat → ByteArray
  | 0 => { data := #[115, 97, 118, 101, 112, 111, 105, 110, 116] }
  | 1 => { data := #[114, 101, 108, 101, 97, 115, 101] }
  | 2 => { data := #[114, 101, 108, 101, 97, 115, 101] }
  | 3 => { data := #[114, 111, 108, 108, 98, 97, 99, 107] }
  | _ => { data := #[97, 98, 111, 114, 116] }
theorem svWS_bytes (i : Nat) (h : i < 5) : bytes (svWS i) = svW.getD i [] ∧ (svWS i).size ≤ 23 := by
  rcases (by omega : i = 0 ∨ i = 1 ∨ i = 2 ∨ i = 3 ∨ i = 4) with rfl | rfl | rfl | rfl | rfl <;> exact ⟨rfl, by decide⟩
theorem svFS_bytes (i : Nat) (h : i < 5) : bytes (svFS i) = svF.getD i [] := by
  rcases (by omega : i = 0 ∨ i = 1 ∨ i = 2 ∨ i = 3 ∨ i = 4) with rfl | rfl | rfl | rfl | rfl <;> rfl
theorem svWS_cell (w : World) (i : Nat) (h : i < 5) (u : TypeId) : (w.alloc (.cells #[.string { data := #[115, 97, 118, 101, 112, 111, 105, 110, 116] }, .string { data := #[114, 101, 108, 101, 97, 115, 101] }, .string { data := #[114, 101, 108, 101, 97, 115, 101, 32, 115, 97, 118, 101, 112, 111, 105, 110, 116] }, .string { data := #[114, 111, 108, 108, 98, 97, 99, 107, 32, 116, 111] }, .string { data := #[97, 98, 111, 114, 116, 32, 119, 111, 114, 107, 32, 116, 111, 32, 115, 97, 118, 101, 112, 111, 105, 110, 116] }] u)).cell? ⟨w.heap.size, i, none⟩ = some (.string (svWS i)) := by
  rcases (by omega : i = 0 ∨ i = 1 ∨ i = 2 ∨ i = 3 ∨ i = 4) with rfl | rfl | rfl | rfl | rfl <;> exact World.cell?_alloc_new _ _ _ _
theorem svFS_cell (w : World) (i : Nat) (h : i < 5) (u : TypeId) : (w.alloc (.cells #[.string { data := #[115, 97, 118, 101, 112, 111, 105, 110, 116] }, .string { data := #[114, 101, 108, 101, 97, 115, 101] }, .string { data := #[114, 101, 108, 101, 97, 115, 101] }, .string { data := #[114, 111, 108, 108, 98, 97, 99, 107] }, .string { data := #[97, 98, 111, 114, 116] }] u)).cell? ⟨w.heap.size, i, none⟩ = some (.string (svFS i)) := by
  rcases (by omega : i = 0 ∨ i = 1 ∨ i = 2 ∨ i = 3 ∨ i = 4) with rfl | rfl | rfl | rfl | rfl <;> exact World.cell?_alloc_new _ _ _ _
theorem svK_cell (w : World) (i : Nat) (h : i < 5) (u : TypeId) : (w.alloc (.cells #[.int .u8 112, .int .u8 101, .int .u8 101, .int .u8 116, .int .u8 116] u)).cell? ⟨w.heap.size, i, none⟩ = some (.int .u8 ((svK.getD i 0).toNat : Nat)) := by
  rcases (by omega : i = 0 ∨ i = 1 ∨ i = 2 ∨ i = 3 ∨ i = 4) with rfl | rfl | rfl | rfl | rfl <;> exact World.cell?_alloc_new _ _ _ _

/-- The three rows of the law. -/
structure SRows (w : World) (b : Nat) (w2 : World) : Prop where
  lt : b + 2 < w2.heap.size
  words : ∀ i, i < 5 → w2.cell? ⟨b, i, none⟩ = some (.string (svWS i))
  kinds : ∀ i, i < 5 → w2.cell? ⟨b + 1, i, none⟩ = some (.int .u8 ((svK.getD i 0).toNat : Nat))
  first : ∀ i, i < 5 → w2.cell? ⟨b + 1 + 1, i, none⟩ = some (.string (svFS i))
  below : Below w.heap.size w w2
theorem SRows.step {w w2 w3 : World} {b : Nat} (h : SRows w b w2) (hb : Below w2.heap.size w2 w3) : SRows w b w3 := by
  have := h.lt
  refine ⟨Nat.lt_of_lt_of_le h.lt hb.size, fun i hi => ?_, fun i hi => ?_, fun i hi => ?_, h.below.step hb h.below.size⟩
  · exact (hb.cell (p := ⟨b, i, none⟩) (show b < w2.heap.size by omega)).trans (h.words i hi)
  · exact (hb.cell (p := ⟨b + 1, i, none⟩) (show b + 1 < w2.heap.size by omega)).trans (h.kinds i hi)
  · exact (hb.cell (p := ⟨b + 1 + 1, i, none⟩) (show b + 1 + 1 < w2.heap.size by omega)).trans (h.first i hi)
theorem SRows.start {w w1 : World} (hB : Below w.heap.size w w1) (u v x : TypeId) : SRows w w1.heap.size (((w1.alloc (.cells #[.string { data := #[115, 97, 118, 101, 112, 111, 105, 110, 116] }, .string { data := #[114, 101, 108, 101, 97, 115, 101] }, .string { data := #[114, 101, 108, 101, 97, 115, 101, 32, 115, 97, 118, 101, 112, 111, 105, 110, 116] }, .string { data := #[114, 111, 108, 108, 98, 97, 99, 107, 32, 116, 111] }, .string { data := #[97, 98, 111, 114, 116, 32, 119, 111, 114, 107, 32, 116, 111, 32, 115, 97, 118, 101, 112, 111, 105, 110, 116] }] u)).alloc (.cells #[.int .u8 112, .int .u8 101, .int .u8 101, .int .u8 116, .int .u8 116] v)).alloc (.cells #[.string { data := #[115, 97, 118, 101, 112, 111, 105, 110, 116] }, .string { data := #[114, 101, 108, 101, 97, 115, 101] }, .string { data := #[114, 101, 108, 101, 97, 115, 101] }, .string { data := #[114, 111, 108, 108, 98, 97, 99, 107] }, .string { data := #[97, 98, 111, 114, 116] }] x)) := by
  refine ⟨by simp, fun i hi => ?_, fun i hi => ?_, fun i hi => ?_, ((hB.alloc hB.size _).alloc (by simp; have := hB.size; omega) _).alloc (by simp; have := hB.size; omega) _⟩
  · exact Lib.cell?_alloc_some _ (Lib.cell?_alloc_some _ (svWS_cell w1 i hi u))
  · have := Lib.cell?_alloc_some (.cells #[.string { data := #[115, 97, 118, 101, 112, 111, 105, 110, 116] }, .string { data := #[114, 101, 108, 101, 97, 115, 101] }, .string { data := #[114, 101, 108, 101, 97, 115, 101] }, .string { data := #[114, 111, 108, 108, 98, 97, 99, 107] }, .string { data := #[97, 98, 111, 114, 116] }] x) (svK_cell (w1.alloc (.cells #[.string { data := #[115, 97, 118, 101, 112, 111, 105, 110, 116] }, .string { data := #[114, 101, 108, 101, 97, 115, 101] }, .string { data := #[114, 101, 108, 101, 97, 115, 101, 32, 115, 97, 118, 101, 112, 111, 105, 110, 116] }, .string { data := #[114, 111, 108, 108, 98, 97, 99, 107, 32, 116, 111] }, .string { data := #[97, 98, 111, 114, 116, 32, 119, 111, 114, 107, 32, 116, 111, 32, 115, 97, 118, 101, 112, 111, 105, 110, 116] }] u)) i hi v)
    rwa [World.size_alloc] at this
  · have := svFS_cell ((w1.alloc (.cells #[.string { data := #[115, 97, 118, 101, 112, 111, 105, 110, 116] }, .string { data := #[114, 101, 108, 101, 97, 115, 101] }, .string { data := #[114, 101, 108, 101, 97, 115, 101, 32, 115, 97, 118, 101, 112, 111, 105, 110, 116] }, .string { data := #[114, 111, 108, 108, 98, 97, 99, 107, 32, 116, 111] }, .string { data := #[97, 98, 111, 114, 116, 32, 119, 111, 114, 107, 32, 116, 111, 32, 115, 97, 118, 101, 112, 111, 105, 110, 116] }] u)).alloc (.cells #[.int .u8 112, .int .u8 101, .int .u8 101, .int .u8 116, .int .u8 116] v)) i hi x
    rwa [World.size_alloc, World.size_alloc] at this

theorem str_back (s : ByteArray) : (⟨(bytes s).toArray⟩ : ByteArray) = s := by simp [bytes]
theorem one_tok (w : World) (k : UInt8) (X : ByteArray) : TokOff (w.alloc (.cells #[.int .u8 (k.toNat : Nat), .string X, .int .i64 0, .int .i64 0] 25)) (some ⟨w.heap.size, 0, none⟩) [⟨k, bytes X, 0, 0⟩] := by
  refine .inr ⟨_, 0, rfl, by simp, fun i q hq => ?_⟩
  match i, hq with
  | 0, hq =>
    cases hq
    rw [show (⟨(bytes X).toArray⟩ : ByteArray) = X by simp [bytes]]
    exact ⟨World.cell?_alloc_new _ _ _ _, World.cell?_alloc_new _ _ _ _, World.cell?_alloc_new _ _ _ _, World.cell?_alloc_new _ _ _ _⟩
  | i + 1, hq => cases hq
theorem fields_one (k : UInt8) (n : Bs) (hk : k = 113 ∨ k = 115) : fieldsB [⟨k, n, 0, 0⟩] = quoted (if k = 113 then 34 else 39) n := by
  rcases hk with rfl | rfl <;> simp [fieldsB, fieldT]
theorem quoted_le2 (c : UInt8) (n : Bs) : (quoted c n).length ≤ 2 * n.length + 2 := by
  unfold quoted
  rw [List.length_cons, List.length_append, List.length_singleton]
  have : ∀ l : Bs, (doubled c l).length ≤ 2 * l.length := by
    intro l
    induction l with
    | nil => exact Nat.le_refl _
    | cons b r ih => rw [doubled]; split <;> simp <;> omega
  have := this n; omega


set_option maxRecDepth 100000 in
set_option maxHeartbeats 8000000 in
theorem save_short (name : ByteArray) (which : Int) (more : ByteArray) (m : Int) (w : World) (hln : (name.size : Int) + more.size ≤ 300) (hn0 : 0 < name.size) (h1 : -9223372036854775808 ≤ which) (h2 : which ≤ 9223372036854775807) (hm : w.cell? ⟨2, 0, none⟩ = some (.int .i64 m)) (hbar : BarredAt w) :
    Calls Tryd.prog 8 #[.string name, .int .i64 which, .string more] w fun e w' => e = .returned (.bool true) ∧ Below w.heap.size w w' := by
  have HW0 := Lib.hid (World.block_lt_of_cell? w ⟨2, 0, none⟩ hm)
  have HSH := Lib.hid (shown9_true m w hm hbar)
  have HP := Lib.hid (fun (S : ByteArray) (W : World) h1 (h : Below w.heap.size w W) => parse_any S m W h1 ((h.cell (p := ⟨2, 0, none⟩) (World.block_lt_of_cell? w ⟨2, 0, none⟩ hm)).trans hm) (hbar.step h))
  have HFI := Lib.hid (fun p T n c (W : World) h1 h2 h3 h4 (h : Below w.heap.size w W) => fields_any p T n c m W h1 h2 h3 h4 ((h.cell (p := ⟨2, 0, none⟩) (World.block_lt_of_cell? w ⟨2, 0, none⟩ hm)).trans hm))
  have HSC := Lib.hid (fun (S : ByteArray) (W : World) h1 (h : Below w.heap.size w W) => scan_rows S m W h1 ((h.cell (p := ⟨2, 0, none⟩) (World.block_lt_of_cell? w ⟨2, 0, none⟩ hm)).trans hm))
  have hne : name.toList.isEmpty = false := by
    cases h : name.toList with
    | nil => exfalso; have : name.size = 0 := by rw [← bytes_len]; rw [Lib.toList_data] at h; unfold bytes; rw [h]; rfl
             omega
    | cons a r => rfl
  have hnn : bytes name ≠ [] := fun e => by have := bytes_len name; rw [e] at this; simp at this; omega
  have HNN := Lib.hid hnn
  have hdd : decide ((300 : Int) < (name.size : Int) + more.size) = false := by simp; omega
  clear hm hbar hnn
  go_enter Tryd.func8, Tryd.ntmps8
  go_wp2_with fail
  refine HSH.out.mono ?_; rintro e w1 ⟨rfl, hb1⟩
  have HB1 := Lib.hid hb1
  clear hb1 HSH
  go_wp2_with fail
  go_loopg [8] name.size (fun g v wr => ∃ k : Nat, v = .int .i64 k ∧ k ≤ name.size ∧ g = name.size - k ∧ wr = w1 ∧ ∀ i : Nat, i < k → (bytes name)[i]? ≠ some 0)
  case atStart => exact ⟨0, rfl, Nat.zero_le _, rfl, rfl, fun i h => absurd h (Nat.not_lt_zero _)⟩
  case round =>
    obtain ⟨k, rfl, hk, hg, rfl, ho⟩ := hrel
    have HO := Lib.hid ho; have HGK := Lib.hid hg
    clear ho hg
    by_cases hlt : k < name.size
    · have hlt' : (k : Int) < (name.size : Int) := by omega
      have hgx : (bytes name)[k]? = some name[k] := by
        rw [List.getElem?_eq_getElem (by rw [bytes_len]; exact hlt)]; rfl
      by_cases hc : name[k] = 0
      · have hc2 : ((name[k].toNat : Int) == 0) = true := by rw [hc]; rfl
        clear hc hgx
        go_wp2_with fail
        go_ret
        exact ⟨rfl, HB1.out⟩
      · have hc2 : ((name[k].toNat : Int) == 0) = false := by
          rw [beq_eq_false_iff_ne]
          intro e
          exact hc (UInt8.toNat_inj.1 (show name[k].toNat = (0 : UInt8).toNat from by have : ((0 : UInt8).toNat : Int) = 0 := rfl; omega))
        have HN := Lib.hid (show ∀ i : Nat, i < k + 1 → (bytes name)[i]? ≠ some 0 from fun i hi => by
          rcases Nat.lt_succ_iff_lt_or_eq.1 hi with h | rfl
          · exact HO.out i h
          · rw [hgx]; exact fun e => hc (Option.some.inj e))
        clear hc hgx
        go_wp2_with fail
        go_roundg (name.size - (k + 1))
        case measure => have := HGK.out; omega
        case rel => exact ⟨k + 1, by go_num, by omega, rfl, rfl, HN.out⟩
    · obtain rfl : k = name.size := by omega
      have hno : (0 : UInt8) ∉ bytes name := fun hm => by
        obtain ⟨i, hi, he⟩ := List.mem_iff_getElem.1 hm
        have hi' := hi; rw [bytes_len] at hi'
        exact HO.out i hi' (by rw [List.getElem?_eq_getElem hi, he])
      have HZ := Lib.hid (show (0 : UInt8) ∉ quoted 34 (bytes name) from fun h => hno (quoted_mem (by decide) h))
      clear hno HO HGK hlt hdd hne
      go_wp2_with fail
      have HTO := Lib.hid (one_tok wr 113 name)
      have HBA := Lib.hid (HB1.out.alloc HB1.out.size (Obj.cells #[.int .u8 113, .string name, .int .i64 0, .int .i64 0] 25))
      refine (HFI.out _ [⟨113, bytes name, 0, 0⟩] 1 1 _ rfl (by omega) HTO.out (fun q hq => by rw [List.mem_singleton] at hq; subst hq; show (bytes name).length ≤ 2000; rw [bytes_len]; omega) HBA.out).mono ?_; rintro e w3 ⟨rfl, hb3⟩
      rw [fields_one 113 _ (.inl rfl), if_pos rfl]
      obtain ⟨Q, hQ⟩ : ∃ Q : ByteArray, Q = ⟨(quoted 34 (bytes name)).toArray⟩ := ⟨_, rfl⟩
      rw [← hQ]
      have HQB := Lib.hid (show bytes Q = quoted 34 (bytes name) by rw [hQ])
      have hqs : Q.size ≤ 602 := by have := quoted_le2 34 (bytes name); rw [← HQB.out, bytes_len, bytes_len] at this; omega
      have HB3 := Lib.hid (HBA.out.step hb3 HBA.out.size)
      clear hb3 hQ HTO HBA HFI
      go_upto_if 55 with (fail)
      have HT := Lib.hid (SRows.start HB3.out 9 5 9)
      generalize ((w3.alloc (Obj.cells #[.string { data := #[115, 97, 118, 101, 112, 111, 105, 110, 116] }, .string { data := #[114, 101, 108, 101, 97, 115, 101] }, .string { data := #[114, 101, 108, 101, 97, 115, 101, 32, 115, 97, 118, 101, 112, 111, 105, 110, 116] }, .string { data := #[114, 111, 108, 108, 98, 97, 99, 107, 32, 116, 111] }, .string { data := #[97, 98, 111, 114, 116, 32, 119, 111, 114, 107, 32, 116, 111, 32, 115, 97, 118, 101, 112, 111, 105, 110, 116] }] 9)).alloc (Obj.cells #[.int .u8 112, .int .u8 101, .int .u8 101, .int .u8 116, .int .u8 116] 5)).alloc (Obj.cells #[.string { data := #[115, 97, 118, 101, 112, 111, 105, 110, 116] }, .string { data := #[114, 101, 108, 101, 97, 115, 101] }, .string { data := #[114, 101, 108, 101, 97, 115, 101] }, .string { data := #[114, 111, 108, 108, 98, 97, 99, 107] }, .string { data := #[97, 98, 111, 114, 116] }] 9) = w4 at HT ⊢
      go_cut [13] (fun s wx => ∃ I : Int, s = .int .i64 I ∧ 0 ≤ I ∧ I ≤ 9223372036854775807 ∧ w4 = wx)
      case first =>
        go_wp2_with fail
        all_goals go_meet
        all_goals exact ⟨_, rfl, by omega, by omega, rfl⟩
      case rest =>
      obtain ⟨I, rfl, hI0, hI9, rfl⟩ := hcut
      have q0 : 0 ≤ I % 5 := by omega
      have q1 : I % 5 < 5 := by omega
      obtain ⟨jn, hj⟩ : ∃ jn : Nat, (jn : Int) = I % 5 := ⟨(I % 5).toNat, by omega⟩
      go_upto_region 17 with (fail)
      rw [← hj] at q0 q1 ⊢
      clear hj hI0 hI9
      have hj5 : jn < 5 := by omega
      have HJ5 := Lib.hid hj5
      have HOB := Lib.hid (svWS_bytes _ hj5); have HOF := Lib.hid (svFS_bytes _ hj5)
      have ho := HOB.out.2
      have HXW := Lib.hid (fun W (h : SRows w w3.heap.size W) => h.words _ hj5)
      have HXK := Lib.hid (fun W (h : SRows w w3.heap.size W) => h.kinds _ hj5)
      have HXF := Lib.hid (fun W (h : SRows w w3.heap.size W) => h.first _ hj5)
      have hsb : bytes ((svWS jn ++ ({ data := #[32] } : ByteArray)) ++ Q) = svW.getD jn [] ++ 32 :: quoted 34 (bytes name) := by rw [p_cat, p_cat, HOB.out.1, HQB.out]; simp [bytes]
      have hsz : ((svWS jn ++ ({ data := #[32] } : ByteArray)) ++ Q).size ≤ 2000 := by rw [ByteArray.size_append, ByteArray.size_append]; show (svWS jn).size + 1 + Q.size ≤ _; omega
      have hp := HP.out ((svWS jn ++ ({ data := #[32] } : ByteArray)) ++ Q) w4 hsz HT.out.below
      rw [hsb, sv_alone jn hj5 _ HNN.out HZ.out (by rw [← hsb, bytes_len]; exact hsz)] at hp
      have HPP := Lib.hid hp
      have HMO := Lib.hid (fun (r : Bs) (t : Tok) (T : List Tok) => sv_more jn hj5 _ HNN.out HZ.out (r := r) (t := t) (T := T))
      generalize svWS jn = O at HOB ho HXW HPP
      generalize svFS jn = O1 at HOF HXF
      generalize svK.getD jn 0 = kd at HXK HPP
      generalize svW.getD jn [] = aW at HOB HMO
      generalize svF.getD jn [] = aF at HOF HMO
      have d1 := HXW.out _ HT.out
      unfold Cmd.val at HPP
      clear hp hsz hsb hj5
      go_wp2_with fail
      refine HPP.out.mono ?_; rintro e w5 ⟨rfl, hb5⟩
      have HT5 := Lib.hid (HT.out.step hb5)
      clear hb5 HT HPP d1
      go_wp2_with fail
      have HTA := Lib.hid (HT5.out.step ((Below.refl _ w5).alloc (Nat.le_refl _) (.cells #[.int .u8 (kd.toNat : Nat), .string ⟨(bytes name).toArray⟩, .string { data := #[] }] 27)))
      refine (HSC.out more _ (by omega) HTA.out.below).mono ?_; rintro e w6 ⟨hb6, hcs⟩
      have hzz : w5.heap.size < (w5.alloc (.cells #[.int .u8 (kd.toNat : Nat), .string ⟨(bytes name).toArray⟩, .string { data := #[] }] 27)).heap.size := by simp
      have HT6 := Lib.hid (HTA.out.step hb6)
      have e0 : w6.cell? ⟨w5.heap.size, 0, none⟩ = some (.int .u8 (kd.toNat : Nat)) := (hb6.cell (p := ⟨w5.heap.size, 0, none⟩) hzz).trans (World.cell?_alloc_new _ _ _ _)
      have e1 : w6.cell? ⟨w5.heap.size, 1, none⟩ = some (.string name) := by
        rw [hb6.cell (p := ⟨w5.heap.size, 1, none⟩) hzz, World.cell?_alloc_new]
        show some (Value.string ⟨(bytes name).toArray⟩) = _
        rw [str_back]
      have e2 : w6.cell? ⟨w5.heap.size, 2, none⟩ = some (.string { data := #[] }) := (hb6.cell (p := ⟨w5.heap.size, 2, none⟩) hzz).trans (World.cell?_alloc_new _ _ _ _)
      have hw6 : w5.heap.size < w6.heap.size := Nat.lt_of_lt_of_le hzz hb6.size
      have d1 := HXK.out _ HT6.out
      clear hb6 hzz HTA HT5 HSC
      rcases hcs with ⟨hN, p, c, rfl⟩ | ⟨L, n, p, c, hL, hn, hn2, rfl, hA⟩
      · clear hN
        go_upto_region 19 with (fail)
        go_quiet (fail)
        have HT7 := Lib.hid (HT6.out.step (below_drewN (Below.refl _ w6) nq))
        generalize w6.drewN nq = w7 at HT7 ⊢
        clear e0 e1 e2 d1
        go_wp2_with fail
        go_ret
        exact ⟨rfl, HT7.out.below⟩
      · have HL := Lib.hid hL; have HN := Lib.hid hn
        clear hL hn
        go_upto_region 19 with (fail)
        go_quiet (fail)
        have HT7 := Lib.hid (HT6.out.step (below_drewN (Below.refl _ w6) nq))
        have HA7 := Lib.hid (hA.step (below_drewN (Below.refl _ w6) nq))
        generalize w6.drewN nq = w7 at HT7 HA7 ⊢
        clear e0 e1 e2 d1 hA HT6
        cases L with
        | nil =>
          obtain rfl : 0 = n := HN.out
          go_wp2_with fail
          go_ret
          exact ⟨rfl, HT7.out.below⟩
        | cons t T =>
          have hn1 : (1 : Int) ≤ n := by rw [← HN.out, List.length_cons]; omega
          have hn0 : ((n : Int) == 0) = false := by simp; omega
          obtain ⟨g, rfl, hg, a0, a1, _, _⟩ := HA7.out 0 t rfl
          rw [Nat.zero_mul, Nat.zero_add] at a1
          clear a0
          by_cases hts : t.text = [59]
          · rw [hts] at a1
            clear hts
            go_wp2_with fail
            go_ret
            exact ⟨rfl, HT7.out.below⟩
          · have htb : (t.text == [59]) = false := by rw [beq_eq_false_iff_ne]; exact hts
            have hSb : bytes ((((O ++ ({ data := #[32] } : ByteArray)) ++ Q) ++ ({ data := #[32] } : ByteArray)) ++ more) = aW ++ 32 :: (quoted 34 (bytes name) ++ 32 :: bytes more) := by rw [p_cat, p_cat, p_cat, p_cat, HOB.out.1, HQB.out]; simp [bytes]
            have hsz : ((((O ++ ({ data := #[32] } : ByteArray)) ++ Q) ++ ({ data := #[32] } : ByteArray)) ++ more).size ≤ 2000 := by rw [ByteArray.size_append, ByteArray.size_append, ByteArray.size_append, ByteArray.size_append]; show O.size + 1 + Q.size + 1 + more.size ≤ _; omega
            have hor := HMO.out _ _ _ HL.out hts (by rw [← hSb, bytes_len]; exact hsz)
            rw [← hSb] at hor
            have hp := HP.out _ w7 hsz HT7.out.below
            obtain ⟨d, hd⟩ : ∃ d, d = parsedC (bytes ((((O ++ ({ data := #[32] } : ByteArray)) ++ Q) ++ ({ data := #[32] } : ByteArray)) ++ more)) := ⟨_, rfl⟩
            rw [← hd] at hp hor
            have HPP := Lib.hid hp
            have HOR := Lib.hid hor
            have d2 := HXW.out _ HT7.out
            clear hp hsz hSb hor hd hts HMO HP
            unfold Cmd.val at HPP
            go_wp2_with fail
            refine HPP.out.mono ?_; rintro e w8 ⟨rfl, hb8⟩
            have HT8 := Lib.hid (HT7.out.step hb8)
            clear hb8 HT7 HA7 HPP a1 htb d2 hg
            rcases HOR.out with h | h
            · rw [h]
              have HO1 := Lib.hid (show (⟨aF.toArray⟩ : ByteArray) = O1 by rw [← HOF.out, str_back])
              clear h
              go_upto_region 24 with (fail)
              rw [HO1.out]
              have HT9 := Lib.hid (HT8.out.step ((Below.refl _ w8).alloc (Nat.le_refl _) (.cells #[.int .u8 117, .string O1, .string { data := #[] }] 27)))
              have e0 := World.cell?_alloc_new w8 #[.int .u8 117, .string O1, .string { data := #[] }] 27 0
              have e1 := World.cell?_alloc_new w8 #[.int .u8 117, .string O1, .string { data := #[] }] 27 1
              have e2 := World.cell?_alloc_new w8 #[.int .u8 117, .string O1, .string { data := #[] }] 27 2
              generalize w8.alloc (Obj.cells #[.int .u8 117, .string O1, .string { data := #[] }] 27) = w9 at HT9 e0 e1 e2 ⊢
              replace e0 : w9.cell? ⟨w8.heap.size, 0, none⟩ = some (.int .u8 117) := e0
              replace e1 : w9.cell? ⟨w8.heap.size, 1, none⟩ = some (.string O1) := e1
              replace e2 : w9.cell? ⟨w8.heap.size, 2, none⟩ = some (.string { data := #[] }) := e2
              have d3 := HXF.out _ HT9.out
              go_quiet (fail)
              have HTX := Lib.hid (HT9.out.step (below_drewN (Below.refl _ w9) nq))
              generalize w9.drewN nq = wx at HTX ⊢
              go_wp2_with fail
              go_ret
              exact ⟨rfl, HTX.out.below⟩
            · rw [h]
              clear h
              go_upto_region 24 with (fail)
              have HT9 := Lib.hid (HT8.out.step ((Below.refl _ w8).alloc (Nat.le_refl _) (.cells #[.int .u8 109, .string { data := #[] }, .string { data := #[] }] 27)))
              have e0 := World.cell?_alloc_new w8 #[.int .u8 109, .string { data := #[] }, .string { data := #[] }] 27 0
              have e1 := World.cell?_alloc_new w8 #[.int .u8 109, .string { data := #[] }, .string { data := #[] }] 27 1
              have e2 := World.cell?_alloc_new w8 #[.int .u8 109, .string { data := #[] }, .string { data := #[] }] 27 2
              generalize w8.alloc (Obj.cells #[.int .u8 109, .string { data := #[] }, .string { data := #[] }] 27) = w9 at HT9 e0 e1 e2 ⊢
              replace e0 : w9.cell? ⟨w8.heap.size, 0, none⟩ = some (.int .u8 109) := e0
              replace e1 : w9.cell? ⟨w8.heap.size, 1, none⟩ = some (.string { data := #[] }) := e1
              replace e2 : w9.cell? ⟨w8.heap.size, 2, none⟩ = some (.string { data := #[] }) := e2
              have d3 := HXF.out _ HT9.out
              go_quiet (fail)
              have HTX := Lib.hid (HT9.out.step (below_drewN (Below.refl _ w9) nq))
              generalize w9.drewN nq = wx at HTX ⊢
              go_wp2_with fail
              go_ret
              exact ⟨rfl, HTX.out.below⟩

set_option maxRecDepth 100000 in
set_option maxHeartbeats 1000000 in
theorem save_long (name : ByteArray) (which : Int) (more : ByteArray) (m : Int) (w : World) (_hz1 : name.size ≤ 140737488351232) (_hz2 : more.size ≤ 140737488351232) (hln : (300 : Int) < (name.size : Int) + more.size) (hm : w.cell? ⟨2, 0, none⟩ = some (.int .i64 m)) (hbar : BarredAt w) :
    Calls Tryd.prog 8 #[.string name, .int .i64 which, .string more] w fun e w' => e = .returned (.bool true) ∧ Below w.heap.size w w' := by
  have HSH := Lib.hid (shown9_true m w hm hbar)
  clear hm hbar
  go_enter Tryd.func8, Tryd.ntmps8
  go_wp2_with fail
  refine HSH.out.mono ?_; rintro e w1 ⟨rfl, hb1⟩
  go_wp2_with fail
  go_ret
  exact ⟨rfl, hb1⟩

set_option maxRecDepth 100000 in
set_option maxHeartbeats 1000000 in
theorem save_empty (which : Int) (more : ByteArray) (m : Int) (w : World) (hln : (more.size : Int) ≤ 300) (hm : w.cell? ⟨2, 0, none⟩ = some (.int .i64 m)) (hbar : BarredAt w) :
    Calls Tryd.prog 8 #[.string { data := #[] }, .int .i64 which, .string more] w fun e w' => e = .returned (.bool true) ∧ Below w.heap.size w w' := by
  have HSH := Lib.hid (shown9_true m w hm hbar)
  clear hm hbar
  go_enter Tryd.func8, Tryd.ntmps8
  go_wp2_with fail
  refine HSH.out.mono ?_; rintro e w1 ⟨rfl, hb1⟩
  go_wp2_with fail
  go_ret
  exact ⟨rfl, hb1⟩

theorem save_walk (name : ByteArray) (which : Int) (more : ByteArray) (m : Int) (w : World) (hz1 : name.size ≤ 140737488351232) (hz2 : more.size ≤ 140737488351232) (h1 : -9223372036854775808 ≤ which ∧ which ≤ 9223372036854775807) (hm : w.cell? ⟨2, 0, none⟩ = some (.int .i64 m)) (hbar : BarredAt w) :
    Calls Tryd.prog 8 #[.string name, .int .i64 which, .string more] w fun e w' => e = .returned (.bool true) ∧ Below w.heap.size w w' := by
  by_cases h : (300 : Int) < (name.size : Int) + more.size
  · exact save_long name which more m w hz1 hz2 h hm hbar
  · by_cases h0 : name.size = 0
    · obtain rfl : name = { data := #[] } := by
        rw [← str_back name, List.length_eq_zero_iff.1 ((bytes_len name).trans h0)]
      exact save_empty which more m w (by omega) hm hbar
    · exact save_short name which more m w (by omega) (by omega) h1.1 h1.2 hm hbar

set_option maxRecDepth 100000 in
theorem save_lifted (os : Os) (started : os.Started) (H : Type) (enc : TypeId × Value → H) :
    ReturnsInHanded {} Tryd.checked os 8 .any (fun w args => (Rows.parseSavepointsSpec.pre enc Tryd.prog Tryd.f8 Rows.parseSavepointsRow.domain false w args ∧ laidMetH Tryd.prog [("unicode/utf8.acceptRanges", Rows.laid_unicode_utf8_acceptRanges), ("taxirank/parse.barred", Rows.laid_taxirank_parse_barred), ("unicode/utf8.first", Rows.laid_unicode_utf8_first)] w) ∧ sizedMet enc Tryd.prog Tryd.f8 (OpenSpec.ofChange Rows.parseSavepointsSpec) false w args) (Rows.parseSavepointsSpec.post enc Tryd.prog Tryd.f8 false true false false) := by
  refine handed_laid (C := Tryd.checked) (X := fun w _ => laidMetH Tryd.prog [("unicode/utf8.acceptRanges", Rows.laid_unicode_utf8_acceptRanges), ("taxirank/parse.barred", Rows.laid_taxirank_parse_barred), ("unicode/utf8.first", Rows.laid_unicode_utf8_first)] w) (fun _ _ _ hh h => h.of_heap hh) own started (by kernel_rfl) Tryd.func8
    (ChangeSpec.witness_shaped (enc := enc) (C := Tryd.checked) (os := os) (X := fun w _ => laidMetH Tryd.prog [("unicode/utf8.acceptRanges", Rows.laid_unicode_utf8_acceptRanges), ("taxirank/parse.barred", Rows.laid_taxirank_parse_barred), ("unicode/utf8.first", Rows.laid_unicode_utf8_first)] w) false (World.laidAll Tryd.prog os [("unicode/utf8.acceptRanges", Rows.laid_unicode_utf8_acceptRanges), ("taxirank/parse.barred", Rows.laid_taxirank_parse_barred), ("unicode/utf8.first", Rows.laid_unicode_utf8_first)]) #[.string { data := #[] }, .int .i64 0, .string { data := #[] }] 8 (World.laidAll_os _ _ _) (World.shaped_of_ZipB (by kernel_rfl) (by kernel_rfl)) (by kernel_rfl) (by kernel_rfl) (by kernel_rfl)
      (by rw [MakeChecks.laidMetH_plain _ _ _ (by kernel_rfl)]; exact laidMet_laidAll _ (by kernel_rfl) (by kernel_rfl))) ?_
  intro W base args ds gs before hval0 hW hsz0 hsh hL
  obtain ⟨m, hm⟩ : ∃ m, W.cell? ⟨2, 0, none⟩ = some (.int .i64 m) := Tryd.laysM143.s1_3 W hsh
  have hbar := barred_of_three hL
  have hsz : (DataW.weightsEach Tryd.prog (Tryd.f8.params.toList ++ Rows.parseSavepointsSpec.plain.varTypes Tryd.prog) (ds ++ gs)).all (· ≤ reachBytes) = true := hsz0
  clear hsz0
  have hval : ∀ (j : Nat) t v, Tryd.f8.params[j]? = some t → args[j]? = some v → Value.okWide Tryd.prog W .any base t v := hval0
  have hW' := hW
  obtain ⟨p, q, hA0, hV, rfl, _, _⟩ := hW
  have hA : DataW.TrodAll enc Tryd.prog W 0 (fun _ => true) true Tryd.f8.params.toList args.toList ds p := hA0
  rw [Tryd.params8] at hA hval hsz
  obtain ⟨v0, v1, v2, d0, d1, d2, p0, p1, p2, rfl, rfl, rfl, h0, h1, h2⟩ := trodAll_three hA
  obtain ⟨rfl, rfl⟩ := trodVars_none hV
  obtain ⟨name, rfl, rfl, rfl, hl_name⟩ := Go.ChangeMaps.open_string Tryd.underlying9 (hval 0 9 v0 rfl rfl) h0
  have hz_name : name.size ≤ 140737488351232 := by have := sized_string hsz (j := 0) (t := 9) rfl rfl; rw [size_list] at this; exact this
  obtain ⟨which, rfl, rfl, rfl, wf_which⟩ := open_int Tryd.underlying3 (hval 1 3 v1 rfl rfl) h1
  have h_which := int_range wf_which
  obtain ⟨more, rfl, rfl, rfl, hl_more⟩ := Go.ChangeMaps.open_string Tryd.underlying9 (hval 2 9 v2 rfl rfl) h2
  have hz_more : more.size ≤ 140737488351232 := by have := sized_string hsz (j := 2) (t := 9) rfl rfl; rw [size_list] at this; exact this
  refine (save_walk name which more m W hz_name hz_more h_which hm hbar).mono fun e W' ⟨he, hb⟩ => ?_
  subst he
  exact ⟨_, rfl, law_shut laidOut (by kernel_rfl) (by kernel_rfl) Tryd.underlying4 rfl hW' rfl hb⟩

theorem save_holds : Rows.ParseSavepointsSaid :=
  OpenClaim.holds_of_wide 8 Tryd.f8 rfl rfl rfl rfl rfl rfl rfl ⟨rfl, rfl, rfl, rfl, rfl⟩ rfl rfl rfl rfl rfl (by kernel_rfl) Tryd.func8 (by kernel_rfl)
    (of_decide_eq_true (by kernel_rfl)) (by unfold Func.isWrapper; rw [if_neg (of_decide_eq_false (by kernel_rfl))]; exact ⟨rfl, rfl⟩)
    (fun os started H enc _ => save_lifted os started H enc)

theorem save_card : Rows.ParseSavepointsCardSaid :=
  Claim7.holds_tied_plain_at .later [] [.data, .data, .pinned] true _ false save_holds (fun _ h => by cases h) (by kernel_rfl) (fun _ h => by cases h) parseSavepoints_row_tie rfl ⟨rfl, rfl⟩ (by kernel_rfl) rfl
    (fun f fn hf hfn => by
      obtain rfl : f = 8 := Option.some.inj ((show Tryd.prog.funcNamed "taxirank/taxiranklaw9.ParseSavepoints" = some 8 by kernel_rfl).symm.trans hf) |>.symm
      obtain rfl : fn = Tryd.f8 := (Option.some.inj (Tryd.func8.symm.trans hfn)).symm
      exact ⟨by kernel_rfl, fun j t ht => by
        rw [Tryd.params8] at ht
        have hm : t ∈ [9, 3, 9] := by simpa using Array.mem_of_getElem? ht
        have hall : ([9, 3, 9].all fun u => !Tryd.prog.wantsStandIn u) = true := by kernel_rfl
        exact (show Tryd.prog.wantsStandIn t = false by simpa using List.all_eq_true.1 hall t hm)⟩)
    (by kernel_rfl)
end Go.Proofs.YtgopajddloeclaaDoor
