/- What a setting is set to is a text as it stands between its quotes, a word folded, or a number with its sign; two of them are none: ParseValues answers true, and leaves what was there as it was. (Over the listed variables, tied to the program's text.) -/
import Derived.Test.YtgopajddloeclaaDoorZ12
import Derived.Test.YtgopajddloeclaaDoorZ25
import Derived.Test.YtgopajddloeclaaDoorLPValuesM
import Derived.Test.YtgopajddloeclaaDoorLFieldsA
import Derived.Deep.DeepCutAuto
import Derived.Deep.LoopGhost
import Derived.BigQuiet
import Derived.Deep.QuietTactic
namespace Go.Proofs.YtgopajddloeclaaDoor
open Go.RowKit Go.Lib Go.WideShapes Go.ChangeShapes Go.ChangeAt Go.Joins

theorem vstr_back (s : ByteArray) : (⟨(bytes s).toArray⟩ : ByteArray) = s := by simp [bytes]
theorem vone_tok (w : World) (k : UInt8) (X : ByteArray) : TokOff (w.alloc (.cells #[.int .u8 (k.toNat : Nat), .string X, .int .i64 0, .int .i64 0] 25)) (some ⟨w.heap.size, 0, none⟩) [⟨k, bytes X, 0, 0⟩] := by
  refine .inr ⟨_, 0, rfl, by simp, fun i q hq => ?_⟩
  match i, hq with
  | 0, hq =>
    cases hq
    rw [vstr_back X]
    exact ⟨World.cell?_alloc_new _ _ _ _, World.cell?_alloc_new _ _ _ _, World.cell?_alloc_new _ _ _ _, World.cell?_alloc_new _ _ _ _⟩
  | i + 1, hq => cases hq
theorem vstr_append (a b : Bs) : (⟨a.toArray⟩ : ByteArray) ++ ⟨b.toArray⟩ = ⟨(a ++ b).toArray⟩ := by
  apply ByteArray.ext
  rw [ByteArray.data_append]
  simp
theorem vdigit_str (d : Nat) (h : d < 10) (t : Bs) : ({ data := #[48, 49, 50, 51, 52, 53, 54, 55, 56, 57] } : ByteArray).extract d (d + 1) ++ ⟨t.toArray⟩ = ⟨(UInt8.ofNat (48 + d) :: t).toArray⟩ := by
  rw [extract_eq, vstr_append]
  have : ((bytes { data := #[48, 49, 50, 51, 52, 53, 54, 55, 56, 57] }).drop d).take (d + 1 - d) = [UInt8.ofNat (48 + d)] := by
    rcases (by omega : d = 0 ∨ d = 1 ∨ d = 2 ∨ d = 3 ∨ d = 4 ∨ d = 5 ∨ d = 6 ∨ d = 7 ∨ d = 8 ∨ d = 9) with rfl | rfl | rfl | rfl | rfl | rfl | rfl | rfl | rfl | rfl <;> rfl
  rw [this]; rfl
theorem vdigit_dg (d : Nat) (h : d < 10) : dg (UInt8.ofNat (48 + d)) = true := by
  rcases (by omega : d = 0 ∨ d = 1 ∨ d = 2 ∨ d = 3 ∨ d = 4 ∨ d = 5 ∨ d = 6 ∨ d = 7 ∨ d = 8 ∨ d = 9) with rfl | rfl | rfl | rfl | rfl | rfl | rfl | rfl | rfl | rfl <;> rfl

/-- A command that lies in a block of its own. -/
structure CBox (w : World) (b : Nat) (k : Int) (n v : ByteArray) : Prop where
  lt : b < w.heap.size
  c0 : w.cell? ⟨b, 0, none⟩ = some (.int .u8 k)
  c1 : w.cell? ⟨b, 1, none⟩ = some (.string n)
  c2 : w.cell? ⟨b, 2, none⟩ = some (.string v)
theorem CBox.step {w w' : World} {b : Nat} {k : Int} {n v : ByteArray} (h : CBox w b k n v) (hb : Below w.heap.size w w') : CBox w' b k n v :=
  ⟨Nat.lt_of_lt_of_le h.lt hb.size, (hb.cell (p := ⟨b, 0, none⟩) h.lt).trans h.c0, (hb.cell (p := ⟨b, 1, none⟩) h.lt).trans h.c1, (hb.cell (p := ⟨b, 2, none⟩) h.lt).trans h.c2⟩
theorem CBox.new (w : World) (k : Int) (n v : ByteArray) (u : TypeId) : CBox (w.alloc (.cells #[.int .u8 k, .string n, .string v] u)) w.heap.size k n v :=
  ⟨by simp, World.cell?_alloc_new _ _ _ _, World.cell?_alloc_new _ _ _ _, World.cell?_alloc_new _ _ _ _⟩
/-- What a parse leaves, its text's command being known. -/
theorem parse_known {S : ByteArray} {c : Cmd} {w : World} {n v : ByteArray} (h : Calls Tryd.prog 11 #[.string S] w fun e w' => e = .returned (.tuple #[(parsedC (bytes S)).1.val, .int .i64 ((parsedC (bytes S)).2 : Nat)]) ∧ Below w.heap.size w w') (hc : parsedC (bytes S) = (c, 0)) (hn : bytes n = c.name) (hv : bytes v = c.value) :
    Calls Tryd.prog 11 #[.string S] w fun e w' => e = .returned (.tuple #[.agg #[.int .u8 (c.kind.toNat : Nat), .string n, .string v], .int .i64 0]) ∧ Below w.heap.size w w' := by
  rw [hc] at h
  unfold Cmd.val at h
  rw [show (c, 0).1.name = c.name from rfl, show (c, 0).1.value = c.value from rfl, ← hn, ← hv, vstr_back, vstr_back] at h
  exact h


set_option maxRecDepth 100000 in
set_option maxHeartbeats 16000000 in
theorem values_short (s : ByteArray) (n : Int) (m : Int) (w : World) (hln : (s.size : Int) ≤ 300) (h1 : -9223372036854775808 ≤ n) (h2 : n ≤ 9223372036854775807) (hm : w.cell? ⟨2, 0, none⟩ = some (.int .i64 m)) (hbar : BarredAt w) :
    Calls Tryd.prog 9 #[.string s, .int .i64 n] w fun e w' => e = .returned (.bool true) ∧ Below w.heap.size w w' := by
  have HW0 := Lib.hid (World.block_lt_of_cell? w ⟨2, 0, none⟩ hm)
  have HSH := Lib.hid (shown9_true m w hm hbar)
  have HP := Lib.hid (fun (S : ByteArray) (W : World) h1 (h : Below w.heap.size w W) => parse_any S m W h1 ((h.cell (p := ⟨2, 0, none⟩) (World.block_lt_of_cell? w ⟨2, 0, none⟩ hm)).trans hm) (hbar.step h))
  have HFI := Lib.hid (fun p T n c (W : World) h1 h2 h3 h4 (h : Below w.heap.size w W) => fields_any p T n c m W h1 h2 h3 h4 ((h.cell (p := ⟨2, 0, none⟩) (World.block_lt_of_cell? w ⟨2, 0, none⟩ hm)).trans hm))
  have hdd : decide ((300 : Int) < (s.size : Int)) = false := by simp; omega
  clear hm hbar
  go_enter Tryd.func9, Tryd.ntmps9
  go_wp2_with fail
  refine HSH.out.mono ?_; rintro e w1 ⟨rfl, hb1⟩
  have HB1 := Lib.hid hb1
  clear hb1 HSH
  go_wp2_with fail
  go_loopg [6] s.size (fun g v wr => ∃ k : Nat, v = .int .i64 k ∧ k ≤ s.size ∧ g = s.size - k ∧ wr = w1 ∧ ∀ i : Nat, i < k → (bytes s)[i]? ≠ some 0)
  case atStart => exact ⟨0, rfl, Nat.zero_le _, rfl, rfl, fun i h => absurd h (Nat.not_lt_zero _)⟩
  case round =>
    obtain ⟨k, rfl, hk, hg, rfl, ho⟩ := hrel
    have HO := Lib.hid ho; have HGK := Lib.hid hg
    clear ho hg
    by_cases hlt : k < s.size
    · have hlt' : (k : Int) < (s.size : Int) := by omega
      have hgx : (bytes s)[k]? = some s[k] := by
        rw [List.getElem?_eq_getElem (by rw [bytes_len]; exact hlt)]; rfl
      by_cases hc : s[k] = 0
      · have hc2 : ((s[k].toNat : Int) == 0) = true := by rw [hc]; rfl
        clear hc hgx
        go_wp2_with fail
        go_ret
        exact ⟨rfl, HB1.out⟩
      · have hc2 : ((s[k].toNat : Int) == 0) = false := by
          rw [beq_eq_false_iff_ne]
          intro e
          exact hc (UInt8.toNat_inj.1 (show s[k].toNat = (0 : UInt8).toNat from by have : ((0 : UInt8).toNat : Int) = 0 := rfl; omega))
        have HN := Lib.hid (show ∀ i : Nat, i < k + 1 → (bytes s)[i]? ≠ some 0 from fun i hi => by
          rcases Nat.lt_succ_iff_lt_or_eq.1 hi with h | rfl
          · exact HO.out i h
          · rw [hgx]; exact fun e => hc (Option.some.inj e))
        clear hc hgx
        go_wp2_with fail
        go_roundg (s.size - (k + 1))
        case measure => have := HGK.out; omega
        case rel => exact ⟨k + 1, by go_num, by omega, rfl, rfl, HN.out⟩
    · obtain rfl : k = s.size := by omega
      have hno : (0 : UInt8) ∉ bytes s := fun hm => by
        obtain ⟨i, hi, he⟩ := List.mem_iff_getElem.1 hm
        have hi' := hi; rw [bytes_len] at hi'
        exact HO.out i hi' (by rw [List.getElem?_eq_getElem hi, he])
      have HZ := Lib.hid (show (0 : UInt8) ∉ quoted 39 (bytes s) from fun h => hno (quoted_mem (by decide) h))
      clear hno HO HGK hlt hdd
      go_wp2_with fail
      have HTO := Lib.hid (vone_tok wr 115 s)
      have HBA := Lib.hid (HB1.out.alloc HB1.out.size (Obj.cells #[.int .u8 115, .string s, .int .i64 0, .int .i64 0] 25))
      refine (HFI.out _ [⟨115, bytes s, 0, 0⟩] 1 1 _ rfl (by omega) HTO.out (fun q hq => by rw [List.mem_singleton] at hq; subst hq; show (bytes s).length ≤ 2000; rw [bytes_len]; omega) HBA.out).mono ?_; rintro e w3 ⟨rfl, hb3⟩
      rw [show fieldsB [⟨115, bytes s, 0, 0⟩] = quoted 39 (bytes s) by simp [fieldsB, fieldT]]
      obtain ⟨Q, hQ⟩ : ∃ Q : ByteArray, Q = ⟨(quoted 39 (bytes s)).toArray⟩ := ⟨_, rfl⟩
      rw [← hQ]
      have HQB := Lib.hid (show bytes Q = quoted 39 (bytes s) by rw [hQ])
      have hqs : Q.size ≤ 602 := by have := quoted_length 39 (bytes s); rw [← HQB.out, bytes_len, bytes_len] at this; omega
      have HB3 := Lib.hid (HBA.out.step hb3 HBA.out.size)
      clear hb3 hQ HTO HBA HFI
      go_upto_if 46 with (fail)
      go_cut [8, 9] (fun sg s9 wx => ∃ (K : Nat) (SG : ByteArray), sg = .string SG ∧ (SG = { data := #[45] } ∨ SG = { data := #[] }) ∧ s9 = .int .i64 K ∧ K ≤ 9223372036854775807 ∧ w3 = wx)
      case first =>
        by_cases hn0 : n < 0
        · go_wp2_with fail
          go_meet
          exact ⟨(-(n + 1)).toNat, _, rfl, .inl rfl, by congr 1; omega, by omega, rfl⟩
        · have hn0' : 0 ≤ n := by omega
          go_wp2_with fail
          go_meet
          exact ⟨n.toNat, _, rfl, .inr rfl, by congr 1; omega, by omega, rfl⟩
      case rest =>
      obtain ⟨K, SG, rfl, hsg, rfl, hK, rfl⟩ := hcut
      have HSG := Lib.hid hsg
      clear hsg
      go_wp2_with fail
      go_loopg [9, 10] (K + 1) (fun g a b wx => ∃ (z : Nat) (t : Bs), g = z + (if t = [] then 1 else 0) ∧ a = .int .i64 z ∧ b = .string ⟨t.toArray⟩ ∧ t.length ≤ 19 ∧ z < 10 ^ (19 - t.length) ∧ (z : Int) ≤ 9223372036854775807 ∧ (∀ c ∈ t, dg c = true) ∧ wx = w3)
      case atStart => exact ⟨K, [], rfl, rfl, rfl, by simp, by simp; omega, by omega, by simp, rfl⟩
      case round =>
        obtain ⟨z, t, hg, rfl, rfl, ht, hz, hzm, hd, rfl⟩ := hrel
        have HG := Lib.hid hg; have HZZ := Lib.hid hz; have HD := Lib.hid hd
        have hmod : z % 10 < 10 := Nat.mod_lt _ (by omega)
        have HN := Lib.hid (show ∀ hx : 0 < z ∨ t = [], (UInt8.ofNat (48 + z % 10) :: t).length ≤ 19 ∧ z / 10 < 10 ^ (19 - (UInt8.ofNat (48 + z % 10) :: t).length) ∧ ∀ c ∈ (UInt8.ofNat (48 + z % 10) :: t), dg c = true by
          intro hx
          rw [List.length_cons]
          have hl : t.length ≤ 18 := by
            rcases Nat.lt_or_ge t.length 19 with h | h
            · omega
            · rcases hx with h0 | h0
              · rw [show 19 - t.length = 0 by omega] at hz; omega
              · rw [h0] at h; simp at h
          refine ⟨by omega, ?_, ?_⟩
          · rw [show 19 - t.length = 19 - (t.length + 1) + 1 by omega, Nat.pow_succ] at hz
            omega
          · intro c hc
            rcases List.mem_cons.1 hc with rfl | hc
            · exact vdigit_dg _ hmod
            · exact hd c hc)
        have HS := Lib.hid (vdigit_str (z % 10) hmod t)
        have q1 : (0 : Int) ≤ (z : Int) % 10 := by omega
        have q2 : (z : Int) % 10 < 10 := by omega
        clear hg hz hd
        by_cases hz0 : 0 < z
        · have hz1 : (0 : Int) < z := by omega
          go_wp2_with fail
          go_roundg (z / 10)
          case measure => have := HG.out; first | omega | (split at this <;> omega)
          case rel =>
            obtain ⟨b1, b2, b3⟩ := HN.out (.inl hz0)
            exact ⟨z / 10, _, by rw [if_neg (by simp)]; rfl, by first | rfl | (congr 1; omega), by rw [HS.out], b1, b2, by omega, b3, rfl⟩
        · obtain rfl : z = 0 := by omega
          cases t with
          | nil =>
            go_wp2_with fail
            go_roundg 0
            case measure => have := HG.out; simp at this; omega
            case rel =>
              obtain ⟨b1, b2, b3⟩ := HN.out (.inr (by simp))
              exact ⟨0, _, rfl, rfl, by rw [show (0 : Nat) = 0 % 10 from rfl, ← HS.out], b1, b2, by omega, b3, rfl⟩
          | cons c t =>
            have HDG := Lib.hid (show Digs (c :: t) from ⟨by simp, ht, HD.out⟩)
            obtain ⟨D, hD⟩ : ∃ D : ByteArray, D = ⟨(c :: t).toArray⟩ := ⟨_, rfl⟩
            have hDB : bytes D = c :: t := by rw [hD]
            rw [← hDB] at HDG
            have hds : D.size ≤ 19 := by rw [← bytes_len]; exact HDG.out.2.1
            have HDE := Lib.hid hD
            clear hDB hD HG HZZ HD hmod HN HS q1 q2 hz0 hzm
            have HB5 := HB3
            go_upto_region 19 with (fail)
            rw [← HDE.out]
            clear HDE ht
            generalize wr = w5 at HB3 HB5 ⊢
            rcases HSG.out with rfl | rfl
            ·
              have hsb : bytes (({ data := #[115, 101, 116, 32, 120, 32, 116, 111, 32] } : ByteArray) ++ Q) = vTo ++ quoted 39 (bytes s) := by rw [p_cat, HQB.out]; simp [bytes, vTo]
              have hsz : (({ data := #[115, 101, 116, 32, 120, 32, 116, 111, 32] } : ByteArray) ++ Q).size ≤ 2000 := by rw [ByteArray.size_append]; show 9 + Q.size ≤ _; omega
              have HLEN : (vTo ++ quoted 39 (bytes s)).length ≤ 2000 := by rw [← hsb, bytes_len]; exact hsz
              have HPP := Lib.hid (parse_known (n := ({ data := #[120] } : ByteArray)) (v := s) (HP.out (({ data := #[115, 101, 116, 32, 120, 32, 116, 111, 32] } : ByteArray) ++ Q) w5 hsz HB5.out) (by rw [hsb]; exact v_a (bytes s) HZ.out HLEN) (by first | rfl | simp [bytes]) (by first | rfl | simp [bytes]))
              clear hsb hsz HLEN
              go_wp2_with fail
              refine HPP.out.mono ?_; rintro e w6 ⟨rfl, hb⟩
              have HB6 := Lib.hid (HB5.out.step hb HB5.out.size)
              clear hb HPP HB5
              go_upto_region 20 with (fail)
              have HXb0 := Lib.hid (CBox.new w6 115 ({ data := #[120] } : ByteArray) s 27)
              have hb := (Below.refl _ w6).alloc (Nat.le_refl _) (Obj.cells #[.int .u8 115, .string ({ data := #[120] } : ByteArray), .string s] 27)
              have HB7 := Lib.hid (HB6.out.step hb HB6.out.size)
              generalize w6.alloc (Obj.cells #[.int .u8 115, .string ({ data := #[120] } : ByteArray), .string s] 27) = w7 at HB7 HXb0 ⊢
              clear hb HB6
              have hsb : bytes ((({ data := #[115, 101, 116, 32, 120, 32, 61, 32] } : ByteArray) ++ ({ data := #[45] } : ByteArray)) ++ D) = vEq ++ 45 :: bytes D := by rw [p_cat, p_cat]; simp [bytes, vEq]
              have hsz : ((({ data := #[115, 101, 116, 32, 120, 32, 61, 32] } : ByteArray) ++ ({ data := #[45] } : ByteArray)) ++ D).size ≤ 2000 := by rw [ByteArray.size_append, ByteArray.size_append]; show 8 + 1 + D.size ≤ _; omega
              have HPP := Lib.hid (parse_known (n := ({ data := #[120] } : ByteArray)) (v := (({ data := #[45] } : ByteArray) ++ D)) (HP.out ((({ data := #[115, 101, 116, 32, 120, 32, 61, 32] } : ByteArray) ++ ({ data := #[45] } : ByteArray)) ++ D) w7 hsz HB7.out) (by rw [hsb]; exact v_bm HDG.out) (by first | rfl | simp [bytes]) (by first | rfl | simp [bytes]))
              clear hsb hsz
              go_wp2_with fail
              refine HPP.out.mono ?_; rintro e w8 ⟨rfl, hb⟩
              have HB8 := Lib.hid (HB7.out.step hb HB7.out.size)
              have HXb0 := Lib.hid (HXb0.out.step hb)
              clear hb HPP HB7
              go_upto_region 21 with (fail)
              have HXb1 := Lib.hid (CBox.new w8 115 ({ data := #[120] } : ByteArray) (({ data := #[45] } : ByteArray) ++ D) 27)
              have hb := (Below.refl _ w8).alloc (Nat.le_refl _) (Obj.cells #[.int .u8 115, .string ({ data := #[120] } : ByteArray), .string (({ data := #[45] } : ByteArray) ++ D)] 27)
              have HXb0 := Lib.hid (HXb0.out.step hb)
              have HB9 := Lib.hid (HB8.out.step hb HB8.out.size)
              generalize w8.alloc (Obj.cells #[.int .u8 115, .string ({ data := #[120] } : ByteArray), .string (({ data := #[45] } : ByteArray) ++ D)] 27) = w9 at HB9 HXb0 HXb1 ⊢
              clear hb HB8
              have HPP := Lib.hid (parse_known (n := ({ data := #[120, 46, 121] } : ByteArray)) (v := ({ data := #[111, 110] } : ByteArray)) (HP.out (({ data := #[115, 101, 116, 32, 108, 111, 99, 97, 108, 32, 120, 46, 121, 32, 61, 32, 79, 110] } : ByteArray)) w9 (by decide) HB9.out) (by exact v_c) (by first | rfl | simp [bytes]) (by first | rfl | simp [bytes]))
              go_wp2_with fail
              refine HPP.out.mono ?_; rintro e w10 ⟨rfl, hb⟩
              have HB10 := Lib.hid (HB9.out.step hb HB9.out.size)
              have HXb0 := Lib.hid (HXb0.out.step hb)
              have HXb1 := Lib.hid (HXb1.out.step hb)
              clear hb HPP HB9
              go_upto_region 22 with (fail)
              have HXb2 := Lib.hid (CBox.new w10 108 ({ data := #[120, 46, 121] } : ByteArray) ({ data := #[111, 110] } : ByteArray) 27)
              have hb := (Below.refl _ w10).alloc (Nat.le_refl _) (Obj.cells #[.int .u8 108, .string ({ data := #[120, 46, 121] } : ByteArray), .string ({ data := #[111, 110] } : ByteArray)] 27)
              have HXb0 := Lib.hid (HXb0.out.step hb)
              have HXb1 := Lib.hid (HXb1.out.step hb)
              have HB11 := Lib.hid (HB10.out.step hb HB10.out.size)
              generalize w10.alloc (Obj.cells #[.int .u8 108, .string ({ data := #[120, 46, 121] } : ByteArray), .string ({ data := #[111, 110] } : ByteArray)] 27) = w11 at HB11 HXb0 HXb1 HXb2 ⊢
              clear hb HB10
              have hsb : bytes (((({ data := #[115, 101, 116, 32, 120, 32, 61, 32] } : ByteArray) ++ Q) ++ ({ data := #[32] } : ByteArray)) ++ D) = vEq ++ (quoted 39 (bytes s) ++ 32 :: bytes D) := by rw [p_cat, p_cat, p_cat, HQB.out]; simp [bytes, vEq]
              have hsz : (((({ data := #[115, 101, 116, 32, 120, 32, 61, 32] } : ByteArray) ++ Q) ++ ({ data := #[32] } : ByteArray)) ++ D).size ≤ 2000 := by rw [ByteArray.size_append, ByteArray.size_append, ByteArray.size_append]; show 8 + Q.size + 1 + D.size ≤ _; omega
              have HLEN : (vEq ++ (quoted 39 (bytes s) ++ 32 :: bytes D)).length ≤ 2000 := by rw [← hsb, bytes_len]; exact hsz
              have HPP := Lib.hid (parse_known (n := ({ data := #[115, 101, 116] } : ByteArray)) (v := ({ data := #[] } : ByteArray)) (HP.out (((({ data := #[115, 101, 116, 32, 120, 32, 61, 32] } : ByteArray) ++ Q) ++ ({ data := #[32] } : ByteArray)) ++ D) w11 hsz HB11.out) (by rw [hsb]; exact v_h (bytes s) HDG.out HZ.out HLEN) (by first | rfl | simp [bytes]) (by first | rfl | simp [bytes]))
              clear hsb hsz HLEN
              go_wp2_with fail
              refine HPP.out.mono ?_; rintro e w12 ⟨rfl, hb⟩
              have HB12 := Lib.hid (HB11.out.step hb HB11.out.size)
              have HXb0 := Lib.hid (HXb0.out.step hb)
              have HXb1 := Lib.hid (HXb1.out.step hb)
              have HXb2 := Lib.hid (HXb2.out.step hb)
              clear hb HPP HB11
              go_upto_region 23 with (fail)
              have HXb3 := Lib.hid (CBox.new w12 117 ({ data := #[115, 101, 116] } : ByteArray) ({ data := #[] } : ByteArray) 27)
              have hb := (Below.refl _ w12).alloc (Nat.le_refl _) (Obj.cells #[.int .u8 117, .string ({ data := #[115, 101, 116] } : ByteArray), .string ({ data := #[] } : ByteArray)] 27)
              have HXb0 := Lib.hid (HXb0.out.step hb)
              have HXb1 := Lib.hid (HXb1.out.step hb)
              have HXb2 := Lib.hid (HXb2.out.step hb)
              have HB13 := Lib.hid (HB12.out.step hb HB12.out.size)
              generalize w12.alloc (Obj.cells #[.int .u8 117, .string ({ data := #[115, 101, 116] } : ByteArray), .string ({ data := #[] } : ByteArray)] 27) = w13 at HB13 HXb0 HXb1 HXb2 HXb3 ⊢
              clear hb HB12
              have hsb : bytes (((({ data := #[115, 101, 116, 32, 120, 32, 61, 32] } : ByteArray) ++ Q) ++ ({ data := #[44, 32] } : ByteArray)) ++ Q) = vEq ++ (quoted 39 (bytes s) ++ 44 :: 32 :: quoted 39 (bytes s)) := by rw [p_cat, p_cat, p_cat, HQB.out]; simp [bytes, vEq]
              have hsz : (((({ data := #[115, 101, 116, 32, 120, 32, 61, 32] } : ByteArray) ++ Q) ++ ({ data := #[44, 32] } : ByteArray)) ++ Q).size ≤ 2000 := by rw [ByteArray.size_append, ByteArray.size_append, ByteArray.size_append]; show 8 + Q.size + 2 + Q.size ≤ _; omega
              have HLEN : (vEq ++ (quoted 39 (bytes s) ++ 44 :: 32 :: quoted 39 (bytes s))).length ≤ 2000 := by rw [← hsb, bytes_len]; exact hsz
              have HPP := Lib.hid (parse_known (n := ({ data := #[115, 101, 116] } : ByteArray)) (v := ({ data := #[] } : ByteArray)) (HP.out (((({ data := #[115, 101, 116, 32, 120, 32, 61, 32] } : ByteArray) ++ Q) ++ ({ data := #[44, 32] } : ByteArray)) ++ Q) w13 hsz HB13.out) (by rw [hsb]; exact v_j (bytes s) HZ.out HLEN) (by first | rfl | simp [bytes]) (by first | rfl | simp [bytes]))
              clear hsb hsz HLEN
              go_wp2_with fail
              refine HPP.out.mono ?_; rintro e w14 ⟨rfl, hb⟩
              have HB14 := Lib.hid (HB13.out.step hb HB13.out.size)
              have HXb0 := Lib.hid (HXb0.out.step hb)
              have HXb1 := Lib.hid (HXb1.out.step hb)
              have HXb2 := Lib.hid (HXb2.out.step hb)
              have HXb3 := Lib.hid (HXb3.out.step hb)
              clear hb HPP HB13
              go_upto_region 24 with (fail)
              have HXb4 := Lib.hid (CBox.new w14 117 ({ data := #[115, 101, 116] } : ByteArray) ({ data := #[] } : ByteArray) 27)
              have hb := (Below.refl _ w14).alloc (Nat.le_refl _) (Obj.cells #[.int .u8 117, .string ({ data := #[115, 101, 116] } : ByteArray), .string ({ data := #[] } : ByteArray)] 27)
              have HXb0 := Lib.hid (HXb0.out.step hb)
              have HXb1 := Lib.hid (HXb1.out.step hb)
              have HXb2 := Lib.hid (HXb2.out.step hb)
              have HXb3 := Lib.hid (HXb3.out.step hb)
              have HB15 := Lib.hid (HB14.out.step hb HB14.out.size)
              generalize w14.alloc (Obj.cells #[.int .u8 117, .string ({ data := #[115, 101, 116] } : ByteArray), .string ({ data := #[] } : ByteArray)] 27) = w15 at HB15 HXb0 HXb1 HXb2 HXb3 HXb4 ⊢
              clear hb HB14
              obtain ⟨_, ab0, ab01, ab02⟩ := HXb0.out
              obtain ⟨_, ab1, ab11, ab12⟩ := HXb1.out
              obtain ⟨_, ab2, ab21, ab22⟩ := HXb2.out
              obtain ⟨_, ab3, ab31, ab32⟩ := HXb3.out
              obtain ⟨_, ab4, ab41, ab42⟩ := HXb4.out
              go_wp2_with fail
              go_ret
              exact ⟨rfl, HB15.out⟩
            ·
              have hsb : bytes (({ data := #[115, 101, 116, 32, 120, 32, 116, 111, 32] } : ByteArray) ++ Q) = vTo ++ quoted 39 (bytes s) := by rw [p_cat, HQB.out]; simp [bytes, vTo]
              have hsz : (({ data := #[115, 101, 116, 32, 120, 32, 116, 111, 32] } : ByteArray) ++ Q).size ≤ 2000 := by rw [ByteArray.size_append]; show 9 + Q.size ≤ _; omega
              have HLEN : (vTo ++ quoted 39 (bytes s)).length ≤ 2000 := by rw [← hsb, bytes_len]; exact hsz
              have HPP := Lib.hid (parse_known (n := ({ data := #[120] } : ByteArray)) (v := s) (HP.out (({ data := #[115, 101, 116, 32, 120, 32, 116, 111, 32] } : ByteArray) ++ Q) w5 hsz HB5.out) (by rw [hsb]; exact v_a (bytes s) HZ.out HLEN) (by first | rfl | simp [bytes]) (by first | rfl | simp [bytes]))
              clear hsb hsz HLEN
              go_wp2_with fail
              refine HPP.out.mono ?_; rintro e w6 ⟨rfl, hb⟩
              have HB6 := Lib.hid (HB5.out.step hb HB5.out.size)
              clear hb HPP HB5
              go_upto_region 20 with (fail)
              have HXb0 := Lib.hid (CBox.new w6 115 ({ data := #[120] } : ByteArray) s 27)
              have hb := (Below.refl _ w6).alloc (Nat.le_refl _) (Obj.cells #[.int .u8 115, .string ({ data := #[120] } : ByteArray), .string s] 27)
              have HB7 := Lib.hid (HB6.out.step hb HB6.out.size)
              generalize w6.alloc (Obj.cells #[.int .u8 115, .string ({ data := #[120] } : ByteArray), .string s] 27) = w7 at HB7 HXb0 ⊢
              clear hb HB6
              have hsb : bytes ((({ data := #[115, 101, 116, 32, 120, 32, 61, 32] } : ByteArray) ++ ({ data := #[] } : ByteArray)) ++ D) = vEq ++ bytes D := by rw [p_cat, p_cat]; simp [bytes, vEq]
              have hsz : ((({ data := #[115, 101, 116, 32, 120, 32, 61, 32] } : ByteArray) ++ ({ data := #[] } : ByteArray)) ++ D).size ≤ 2000 := by rw [ByteArray.size_append, ByteArray.size_append]; show 8 + 0 + D.size ≤ _; omega
              have HPP := Lib.hid (parse_known (n := ({ data := #[120] } : ByteArray)) (v := (({ data := #[] } : ByteArray) ++ D)) (HP.out ((({ data := #[115, 101, 116, 32, 120, 32, 61, 32] } : ByteArray) ++ ({ data := #[] } : ByteArray)) ++ D) w7 hsz HB7.out) (by rw [hsb]; exact v_b HDG.out) (by first | rfl | simp [bytes]) (by first | rfl | simp [bytes]))
              clear hsb hsz
              go_wp2_with fail
              refine HPP.out.mono ?_; rintro e w8 ⟨rfl, hb⟩
              have HB8 := Lib.hid (HB7.out.step hb HB7.out.size)
              have HXb0 := Lib.hid (HXb0.out.step hb)
              clear hb HPP HB7
              go_upto_region 21 with (fail)
              have HXb1 := Lib.hid (CBox.new w8 115 ({ data := #[120] } : ByteArray) (({ data := #[] } : ByteArray) ++ D) 27)
              have hb := (Below.refl _ w8).alloc (Nat.le_refl _) (Obj.cells #[.int .u8 115, .string ({ data := #[120] } : ByteArray), .string (({ data := #[] } : ByteArray) ++ D)] 27)
              have HXb0 := Lib.hid (HXb0.out.step hb)
              have HB9 := Lib.hid (HB8.out.step hb HB8.out.size)
              generalize w8.alloc (Obj.cells #[.int .u8 115, .string ({ data := #[120] } : ByteArray), .string (({ data := #[] } : ByteArray) ++ D)] 27) = w9 at HB9 HXb0 HXb1 ⊢
              clear hb HB8
              have HPP := Lib.hid (parse_known (n := ({ data := #[120, 46, 121] } : ByteArray)) (v := ({ data := #[111, 110] } : ByteArray)) (HP.out (({ data := #[115, 101, 116, 32, 108, 111, 99, 97, 108, 32, 120, 46, 121, 32, 61, 32, 79, 110] } : ByteArray)) w9 (by decide) HB9.out) (by exact v_c) (by first | rfl | simp [bytes]) (by first | rfl | simp [bytes]))
              go_wp2_with fail
              refine HPP.out.mono ?_; rintro e w10 ⟨rfl, hb⟩
              have HB10 := Lib.hid (HB9.out.step hb HB9.out.size)
              have HXb0 := Lib.hid (HXb0.out.step hb)
              have HXb1 := Lib.hid (HXb1.out.step hb)
              clear hb HPP HB9
              go_upto_region 22 with (fail)
              have HXb2 := Lib.hid (CBox.new w10 108 ({ data := #[120, 46, 121] } : ByteArray) ({ data := #[111, 110] } : ByteArray) 27)
              have hb := (Below.refl _ w10).alloc (Nat.le_refl _) (Obj.cells #[.int .u8 108, .string ({ data := #[120, 46, 121] } : ByteArray), .string ({ data := #[111, 110] } : ByteArray)] 27)
              have HXb0 := Lib.hid (HXb0.out.step hb)
              have HXb1 := Lib.hid (HXb1.out.step hb)
              have HB11 := Lib.hid (HB10.out.step hb HB10.out.size)
              generalize w10.alloc (Obj.cells #[.int .u8 108, .string ({ data := #[120, 46, 121] } : ByteArray), .string ({ data := #[111, 110] } : ByteArray)] 27) = w11 at HB11 HXb0 HXb1 HXb2 ⊢
              clear hb HB10
              have hsb : bytes (((({ data := #[115, 101, 116, 32, 120, 32, 61, 32] } : ByteArray) ++ Q) ++ ({ data := #[32] } : ByteArray)) ++ D) = vEq ++ (quoted 39 (bytes s) ++ 32 :: bytes D) := by rw [p_cat, p_cat, p_cat, HQB.out]; simp [bytes, vEq]
              have hsz : (((({ data := #[115, 101, 116, 32, 120, 32, 61, 32] } : ByteArray) ++ Q) ++ ({ data := #[32] } : ByteArray)) ++ D).size ≤ 2000 := by rw [ByteArray.size_append, ByteArray.size_append, ByteArray.size_append]; show 8 + Q.size + 1 + D.size ≤ _; omega
              have HLEN : (vEq ++ (quoted 39 (bytes s) ++ 32 :: bytes D)).length ≤ 2000 := by rw [← hsb, bytes_len]; exact hsz
              have HPP := Lib.hid (parse_known (n := ({ data := #[115, 101, 116] } : ByteArray)) (v := ({ data := #[] } : ByteArray)) (HP.out (((({ data := #[115, 101, 116, 32, 120, 32, 61, 32] } : ByteArray) ++ Q) ++ ({ data := #[32] } : ByteArray)) ++ D) w11 hsz HB11.out) (by rw [hsb]; exact v_h (bytes s) HDG.out HZ.out HLEN) (by first | rfl | simp [bytes]) (by first | rfl | simp [bytes]))
              clear hsb hsz HLEN
              go_wp2_with fail
              refine HPP.out.mono ?_; rintro e w12 ⟨rfl, hb⟩
              have HB12 := Lib.hid (HB11.out.step hb HB11.out.size)
              have HXb0 := Lib.hid (HXb0.out.step hb)
              have HXb1 := Lib.hid (HXb1.out.step hb)
              have HXb2 := Lib.hid (HXb2.out.step hb)
              clear hb HPP HB11
              go_upto_region 23 with (fail)
              have HXb3 := Lib.hid (CBox.new w12 117 ({ data := #[115, 101, 116] } : ByteArray) ({ data := #[] } : ByteArray) 27)
              have hb := (Below.refl _ w12).alloc (Nat.le_refl _) (Obj.cells #[.int .u8 117, .string ({ data := #[115, 101, 116] } : ByteArray), .string ({ data := #[] } : ByteArray)] 27)
              have HXb0 := Lib.hid (HXb0.out.step hb)
              have HXb1 := Lib.hid (HXb1.out.step hb)
              have HXb2 := Lib.hid (HXb2.out.step hb)
              have HB13 := Lib.hid (HB12.out.step hb HB12.out.size)
              generalize w12.alloc (Obj.cells #[.int .u8 117, .string ({ data := #[115, 101, 116] } : ByteArray), .string ({ data := #[] } : ByteArray)] 27) = w13 at HB13 HXb0 HXb1 HXb2 HXb3 ⊢
              clear hb HB12
              have hsb : bytes (((({ data := #[115, 101, 116, 32, 120, 32, 61, 32] } : ByteArray) ++ Q) ++ ({ data := #[44, 32] } : ByteArray)) ++ Q) = vEq ++ (quoted 39 (bytes s) ++ 44 :: 32 :: quoted 39 (bytes s)) := by rw [p_cat, p_cat, p_cat, HQB.out]; simp [bytes, vEq]
              have hsz : (((({ data := #[115, 101, 116, 32, 120, 32, 61, 32] } : ByteArray) ++ Q) ++ ({ data := #[44, 32] } : ByteArray)) ++ Q).size ≤ 2000 := by rw [ByteArray.size_append, ByteArray.size_append, ByteArray.size_append]; show 8 + Q.size + 2 + Q.size ≤ _; omega
              have HLEN : (vEq ++ (quoted 39 (bytes s) ++ 44 :: 32 :: quoted 39 (bytes s))).length ≤ 2000 := by rw [← hsb, bytes_len]; exact hsz
              have HPP := Lib.hid (parse_known (n := ({ data := #[115, 101, 116] } : ByteArray)) (v := ({ data := #[] } : ByteArray)) (HP.out (((({ data := #[115, 101, 116, 32, 120, 32, 61, 32] } : ByteArray) ++ Q) ++ ({ data := #[44, 32] } : ByteArray)) ++ Q) w13 hsz HB13.out) (by rw [hsb]; exact v_j (bytes s) HZ.out HLEN) (by first | rfl | simp [bytes]) (by first | rfl | simp [bytes]))
              clear hsb hsz HLEN
              go_wp2_with fail
              refine HPP.out.mono ?_; rintro e w14 ⟨rfl, hb⟩
              have HB14 := Lib.hid (HB13.out.step hb HB13.out.size)
              have HXb0 := Lib.hid (HXb0.out.step hb)
              have HXb1 := Lib.hid (HXb1.out.step hb)
              have HXb2 := Lib.hid (HXb2.out.step hb)
              have HXb3 := Lib.hid (HXb3.out.step hb)
              clear hb HPP HB13
              go_upto_region 24 with (fail)
              have HXb4 := Lib.hid (CBox.new w14 117 ({ data := #[115, 101, 116] } : ByteArray) ({ data := #[] } : ByteArray) 27)
              have hb := (Below.refl _ w14).alloc (Nat.le_refl _) (Obj.cells #[.int .u8 117, .string ({ data := #[115, 101, 116] } : ByteArray), .string ({ data := #[] } : ByteArray)] 27)
              have HXb0 := Lib.hid (HXb0.out.step hb)
              have HXb1 := Lib.hid (HXb1.out.step hb)
              have HXb2 := Lib.hid (HXb2.out.step hb)
              have HXb3 := Lib.hid (HXb3.out.step hb)
              have HB15 := Lib.hid (HB14.out.step hb HB14.out.size)
              generalize w14.alloc (Obj.cells #[.int .u8 117, .string ({ data := #[115, 101, 116] } : ByteArray), .string ({ data := #[] } : ByteArray)] 27) = w15 at HB15 HXb0 HXb1 HXb2 HXb3 HXb4 ⊢
              clear hb HB14
              obtain ⟨_, ab0, ab01, ab02⟩ := HXb0.out
              obtain ⟨_, ab1, ab11, ab12⟩ := HXb1.out
              obtain ⟨_, ab2, ab21, ab22⟩ := HXb2.out
              obtain ⟨_, ab3, ab31, ab32⟩ := HXb3.out
              obtain ⟨_, ab4, ab41, ab42⟩ := HXb4.out
              go_wp2_with fail
              go_ret
              exact ⟨rfl, HB15.out⟩

set_option maxRecDepth 100000 in
set_option maxHeartbeats 1000000 in
theorem values_long (s : ByteArray) (n : Int) (m : Int) (w : World) (_hz : s.size ≤ 140737488351232) (hln : (300 : Int) < (s.size : Int)) (hm : w.cell? ⟨2, 0, none⟩ = some (.int .i64 m)) (hbar : BarredAt w) :
    Calls Tryd.prog 9 #[.string s, .int .i64 n] w fun e w' => e = .returned (.bool true) ∧ Below w.heap.size w w' := by
  have HSH := Lib.hid (shown9_true m w hm hbar)
  clear hm hbar
  go_enter Tryd.func9, Tryd.ntmps9
  go_wp2_with fail
  refine HSH.out.mono ?_; rintro e w1 ⟨rfl, hb1⟩
  go_wp2_with fail
  go_ret
  exact ⟨rfl, hb1⟩

theorem values_walk (s : ByteArray) (n : Int) (m : Int) (w : World) (hz : s.size ≤ 140737488351232) (h1 : -9223372036854775808 ≤ n ∧ n ≤ 9223372036854775807) (hm : w.cell? ⟨2, 0, none⟩ = some (.int .i64 m)) (hbar : BarredAt w) :
    Calls Tryd.prog 9 #[.string s, .int .i64 n] w fun e w' => e = .returned (.bool true) ∧ Below w.heap.size w w' := by
  by_cases h : (300 : Int) < (s.size : Int)
  · exact values_long s n m w hz h hm hbar
  · exact values_short s n m w (by omega) h1.1 h1.2 hm hbar

set_option maxRecDepth 100000 in
theorem values_lifted (os : Os) (started : os.Started) (H : Type) (enc : TypeId × Value → H) :
    ReturnsInHanded {} Tryd.checked os 9 .any (fun w args => (Rows.parseValuesSpec.pre enc Tryd.prog Tryd.f9 Rows.parseValuesRow.domain false w args ∧ laidMetH Tryd.prog [("unicode/utf8.acceptRanges", Rows.laid_unicode_utf8_acceptRanges), ("taxirank/parse.barred", Rows.laid_taxirank_parse_barred), ("unicode/utf8.first", Rows.laid_unicode_utf8_first)] w) ∧ sizedMet enc Tryd.prog Tryd.f9 (OpenSpec.ofChange Rows.parseValuesSpec) false w args) (Rows.parseValuesSpec.post enc Tryd.prog Tryd.f9 false true false false) := by
  refine handed_laid (C := Tryd.checked) (X := fun w _ => laidMetH Tryd.prog [("unicode/utf8.acceptRanges", Rows.laid_unicode_utf8_acceptRanges), ("taxirank/parse.barred", Rows.laid_taxirank_parse_barred), ("unicode/utf8.first", Rows.laid_unicode_utf8_first)] w) (fun _ _ _ hh h => h.of_heap hh) own started (by kernel_rfl) Tryd.func9
    (ChangeSpec.witness_shaped (enc := enc) (C := Tryd.checked) (os := os) (X := fun w _ => laidMetH Tryd.prog [("unicode/utf8.acceptRanges", Rows.laid_unicode_utf8_acceptRanges), ("taxirank/parse.barred", Rows.laid_taxirank_parse_barred), ("unicode/utf8.first", Rows.laid_unicode_utf8_first)] w) false (World.laidAll Tryd.prog os [("unicode/utf8.acceptRanges", Rows.laid_unicode_utf8_acceptRanges), ("taxirank/parse.barred", Rows.laid_taxirank_parse_barred), ("unicode/utf8.first", Rows.laid_unicode_utf8_first)]) #[.string { data := #[] }, .int .i64 0] 8 (World.laidAll_os _ _ _) (World.shaped_of_ZipB (by kernel_rfl) (by kernel_rfl)) (by kernel_rfl) (by kernel_rfl) (by kernel_rfl)
      (by rw [MakeChecks.laidMetH_plain _ _ _ (by kernel_rfl)]; exact laidMet_laidAll _ (by kernel_rfl) (by kernel_rfl))) ?_
  intro W base args ds gs before hval0 hW hsz0 hsh hL
  obtain ⟨m, hm⟩ : ∃ m, W.cell? ⟨2, 0, none⟩ = some (.int .i64 m) := Tryd.laysM143.s1_3 W hsh
  have hbar := barred_of_three hL
  have hsz : (DataW.weightsEach Tryd.prog (Tryd.f9.params.toList ++ Rows.parseValuesSpec.plain.varTypes Tryd.prog) (ds ++ gs)).all (· ≤ reachBytes) = true := hsz0
  clear hsz0
  have hval : ∀ (j : Nat) t v, Tryd.f9.params[j]? = some t → args[j]? = some v → Value.okWide Tryd.prog W .any base t v := hval0
  have hW' := hW
  obtain ⟨p, q, hA0, hV, rfl, _, _⟩ := hW
  have hA : DataW.TrodAll enc Tryd.prog W 0 (fun _ => true) true Tryd.f9.params.toList args.toList ds p := hA0
  rw [Tryd.params9] at hA hval hsz
  obtain ⟨v0, v1, d0, d1, p0, p1, rfl, rfl, rfl, h0, h1⟩ := trodAll_two hA
  obtain ⟨rfl, rfl⟩ := trodVars_none hV
  obtain ⟨s, rfl, rfl, rfl, hl_s⟩ := Go.ChangeMaps.open_string Tryd.underlying9 (hval 0 9 v0 rfl rfl) h0
  have hz_s : s.size ≤ 140737488351232 := by have := sized_string hsz (j := 0) (t := 9) rfl rfl; rw [size_list] at this; exact this
  obtain ⟨n, rfl, rfl, rfl, wf_n⟩ := open_int Tryd.underlying3 (hval 1 3 v1 rfl rfl) h1
  have h_n := int_range wf_n
  refine (values_walk s n m W hz_s h_n hm hbar).mono fun e W' ⟨he, hb⟩ => ?_
  subst he
  exact ⟨_, rfl, law_shut laidOut (by kernel_rfl) (by kernel_rfl) Tryd.underlying4 rfl hW' rfl hb⟩

theorem values_holds : Rows.ParseValuesSaid :=
  OpenClaim.holds_of_wide 9 Tryd.f9 rfl rfl rfl rfl rfl rfl rfl ⟨rfl, rfl, rfl, rfl, rfl⟩ rfl rfl rfl rfl rfl (by kernel_rfl) Tryd.func9 (by kernel_rfl)
    (of_decide_eq_true (by kernel_rfl)) (by unfold Func.isWrapper; rw [if_neg (of_decide_eq_false (by kernel_rfl))]; exact ⟨rfl, rfl⟩)
    (fun os started H enc _ => values_lifted os started H enc)

theorem values_card : Rows.ParseValuesCardSaid :=
  Claim7.holds_tied_plain_at .later [] [.data, .data, .pinned] true _ false values_holds (fun _ h => by cases h) (by kernel_rfl) (fun _ h => by cases h) parseValues_row_tie rfl ⟨rfl, rfl⟩ (by kernel_rfl) rfl
    (fun f fn hf hfn => by
      obtain rfl : f = 9 := Option.some.inj ((show Tryd.prog.funcNamed "taxirank/taxiranklaw9.ParseValues" = some 9 by kernel_rfl).symm.trans hf) |>.symm
      obtain rfl : fn = Tryd.f9 := (Option.some.inj (Tryd.func9.symm.trans hfn)).symm
      exact ⟨by kernel_rfl, fun j t ht => by
        rw [Tryd.params9] at ht
        have hm : t ∈ [9, 3] := by simpa using Array.mem_of_getElem? ht
        have hall : ([9, 3].all fun u => !Tryd.prog.wantsStandIn u) = true := by kernel_rfl
        exact (show Tryd.prog.wantsStandIn t = false by simpa using List.all_eq_true.1 hall t hm)⟩)
    (by kernel_rfl)
end Go.Proofs.YtgopajddloeclaaDoor
