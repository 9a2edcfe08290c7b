/- Contracts and mathematics: GFault, NPart, NTaken, NRepl, NGood. -/
import Derived.Test.YtpijolcklmdjbaaGreatDoorZ10
import Derived.Test.YtpijolcklmdjbaaGreatDoorZ12
import Derived.Test.YtpijolcklmdjbaaGreatDoorZ9
import Derived.Deep.LoopGhost
namespace Go.Proofs.YtpijolcklmdjbaaGreatDoor
open Go.RowKit Go.Lib Go.WideShapes

set_option maxRecDepth 100000 in
set_option maxHeartbeats 8000000 in
theorem together_any (w : World) (p : Option Addr) (L : List Mg) (n c : Nat) (hn : L.length = n) (hc : n ≤ c) (hn2 : n ≤ 9000) (hA : MsgsAt w p L) (hr : ∀ x ∈ L, room ⟨x.T, x.N, []⟩ ≤ 800000) :
    Calls Tryz.prog 25 #[.slice p n c] w fun e w' => e = .returned (.tuple #[.string (togS L), .int .i64 (togE L)]) ∧ Below w.heap.size w w' := by
  have HA := Lib.hid hA
  have HN := Lib.hid hn
  have HR := Lib.hid hr
  have HG0 := Lib.hid (gB_new w)
  have hnc : (n : Int) ≤ c := by omega
  clear hA hn hr hc
  go_enter Tryz.func25, Tryz.ntmps25
  go_wp2_with fail
  go_loopg [12] n (fun g v wr => ∃ k : Nat, v = .int .i64 k ∧ k ≤ n ∧ g = n - k ∧ togE L = togE (L.drop k) ∧ (togB (L.take k)).length ≤ 10005 * k ∧ GB w.heap.size w.heap.size (togB (L.take k)) wr ∧ Below w.heap.size w wr ∧ w.heap.size < wr.heap.size)
  case atStart => exact ⟨0, rfl, Nat.zero_le _, rfl, rfl, by simp [togB], HG0.out, (Below.refl _ _).alloc (Nat.le_refl _) _, by simp⟩
  case round =>
    obtain ⟨k, rfl, hk, hg, hE, hlen, hG, hb, hz⟩ := hrel
    have HE := Lib.hid hE; have HG := Lib.hid hG; have HB := Lib.hid hb; have HGG := Lib.hid hg; have HL := Lib.hid hlen; have HZ := Lib.hid hz
    clear hE hG hb hg hlen hz
    by_cases hlt : k < n
    · have hlt' : (k : Int) < n := by omega
      have HK := Lib.hid (show k < L.length by rw [HN.out]; exact hlt)
      have HA1 := Lib.hid (HA.out.step HB.out)
      have htd := tog_drop HK.out
      have htt := tog_take HK.out
      have hx := List.getElem?_eq_getElem HK.out
      have hmem := List.getElem_mem HK.out
      generalize L[k]'HK.out = x at htd htt hx hmem
      have HTD := Lib.hid htd; have HTT := Lib.hid htt
      have HRX := Lib.hid (HR.out x hmem)
      obtain ⟨g, off, rfl, hgl, hcl⟩ : ∃ g off, p = some ⟨g, off, none⟩ ∧ g < wr.heap.size ∧ ∀ (i : Nat) x, L[i]? = some x → ∃ a n c b m d, wr.cell? ⟨g, off + i * 3, none⟩ = some (.int .u8 (x.c.toNat : Nat)) ∧ wr.cell? ⟨g, off + i * 3 + 1, none⟩ = some (.slice a n c) ∧ wr.cell? ⟨g, off + i * 3 + 2, none⟩ = some (.slice b m d) ∧ TextsIn wr (.slice a n c) x.T ∧ NumsIn wr (.slice b m d) x.N := by
        rcases HA1.out with h | h
        · exfalso; have h2 := HK.out; rw [h] at h2; exact Nat.not_lt_zero _ h2
        · exact h
      obtain ⟨a1, n1, d1, a2, n2, d2, c0, c1, c2, hT, hN⟩ := hcl k x hx
      have HT := Lib.hid hT; have HNN := Lib.hid hN
      have HGL := Lib.hid hgl
      clear hcl hx hmem htd htt hT hN hgl
      obtain ⟨W1, hW1⟩ : ∃ W1, W1 = wr.alloc (.cells #[.int .u8 (x.c.toNat : Nat), .slice a1 n1 d1, .slice a2 n2 d2] 39) := ⟨_, rfl⟩
      have HB1 := Lib.hid (show Below wr.heap.size wr W1 by rw [hW1]; exact (Below.refl _ _).alloc (Nat.le_refl _) _)
      have HEN := Lib.hid (encode_any W1 true x.c x.T x.N _ _ (HT.out.mono HB1.out) (HNN.out.mono HB1.out) HRX.out)
      have HW1 := Lib.hid hW1
      clear hW1
      go_wp2_with fail
      rw [← HW1.out]
      refine HEN.out.mono ?_; rintro e w2 ⟨rfl, hb2⟩
      have HB2 := Lib.hid (HB1.out.step hb2 HB1.out.size)
      have HC2 := Lib.hid (HB.out.step HB2.out (Nat.le_of_lt HZ.out))
      clear hb2
      unfold encV
      have hxw : written true x.c x.T x.N = x.w := rfl
      rw [hxw]
      clear hxw
      by_cases he : encE x.w = 0
      · rw [if_pos he, he]
        have HTD := Lib.hid (show togE (L.drop k) = togE (L.drop (k + 1)) by rw [HTD.out, if_pos he])
        have HSZ := Lib.hid (s_size he)
        have HPK := Lib.hid (fun W => pack_small x.c ⟨((x.w).getD []).toArray⟩ W (by rw [bsize]; exact encE_len he))
        rw [show packB (x.c.toNat : Nat) ⟨((x.w).getD []).toArray⟩ = x.s from rfl] at HPK
        clear he
        go_wp2_with fail
        refine (HPK.out _).mono ?_; rintro e w3 ⟨rfl, hb3⟩
        have HB3 := Lib.hid (((HB2.out.alloc HB2.out.size (.cells #[.int .u8 (x.c.toNat : Nat), .string ⟨((x.w).getD []).toArray⟩] 33))).step hb3 (by rw [World.size_alloc]; exact Nat.le_succ_of_le HB2.out.size))
        clear hb3
        go_wp2_with fail
        have HG3 := Lib.hid (HG.out.below HB3.out)
        refine (g_wr_string _ _ _ _ w3 HG3.out (by have := HL.out; have := HSZ.out; omega) (Nat.le_trans (Nat.le_of_lt HZ.out) HB3.out.size)).mono ?_; rintro e w4 ⟨rfl, hG4, hb4⟩
        have HG4 := Lib.hid hG4
        have HB4 := Lib.hid ((HB.out.step HB3.out (Nat.le_of_lt HZ.out)).trans hb4)
        have HZ4 := Lib.hid (Nat.lt_of_lt_of_le HZ.out (Nat.le_trans HB3.out.size hb4.size))
        clear hG4 hb4
        go_wp2_with fail
        go_roundg (n - (k + 1))
        case measure => have := HGG.out; omega
        case rel => exact ⟨k + 1, by go_num, by omega, rfl, HE.out.trans HTD.out, by rw [HTT.out, List.length_append, bytes_len]; have := HL.out; have := HSZ.out; omega, by rw [HTT.out]; exact HG4.out, HB4.out, HZ4.out⟩
      · rw [if_neg he]
        have hne : (encE x.w != 0) = true := by simpa using he
        have HFE := Lib.hid (show togE L = encE x.w by rw [HE.out, HTD.out, if_neg he])
        have HFS := Lib.hid (show togS L = { data := #[] } by unfold togS; rw [HFE.out, if_neg he])
        generalize encE x.w = ex at he hne HFE HFS ⊢
        clear he
        go_wp2_with fail
        go_ret2
        exact ⟨by rw [HFE.out, HFS.out]; rfl, HC2.out.alloc HC2.out.size _⟩
    · obtain rfl : k = n := by omega
      have HFE := Lib.hid (show togE L = 0 by rw [HE.out, ← HN.out, List.drop_length]; rfl)
      have HFS := Lib.hid (show togS L = ⟨(togB (L.take k)).toArray⟩ by unfold togS; rw [HFE.out, if_pos rfl, ← HN.out, List.take_length])
      go_wp2_with fail
      refine (g_str_of _ _ _ wr HG.out (Nat.le_of_lt HZ.out)).mono ?_; rintro e w4 ⟨rfl, hb4⟩
      have HB4 := Lib.hid (HB.out.trans hb4)
      clear hb4
      go_wp2_with fail
      go_ret2
      exact ⟨by rw [HFE.out, HFS.out]; rfl, HB4.out⟩

end Go.Proofs.YtpijolcklmdjbaaGreatDoor

namespace Go.Proofs.YtpijolcklmdjbaaGreatDoor
open Go.RowKit Go.Lib Go.WideShapes

def lowB (c : UInt8) : Bool := (97 ≤ c && c ≤ 122) || c == 95
def digB (c : UInt8) : Bool := 48 ≤ c && c ≤ 57
def partR (l : Bs) : Bool := l.all fun c => lowB c || digB c
def partB : Bs → Bool
  | [] => false
  | c :: r => lowB c && partR r

def takenL : List Bs := [[97, 108, 108], [100, 101, 102, 97, 117, 108, 116], [102, 114, 111, 109], [108, 111, 99, 97, 108], [111, 110], [115, 101, 115, 115, 105, 111, 110], [116, 111], [111, 102, 102], [116, 114, 117, 101], [102, 97, 108, 115, 101]]
def takenB (l : Bs) : Bool := takenL.any (fun x => l == x)

theorem partB_take (l : Bs) (k : Nat) (hk : k < l.length) : (k = 0 → lowB (l[k]) = false → partB l = false) ∧ (lowB (l[k]) = false → digB (l[k]) = false → partB l = false) := by
  cases l with
  | nil => simp at hk
  | cons c r =>
    refine ⟨fun h0 h => ?_, fun h1 h2 => ?_⟩
    · subst h0
      have h : lowB c = false := h
      rw [partB, h]; rfl
    · cases k with
      | zero =>
        have h1 : lowB c = false := h1
        rw [partB, h1]; rfl
      | succ k =>
        have hk : k < r.length := by simpa using hk
        have h1 : lowB r[k] = false := h1
        have h2 : digB r[k] = false := h2
        have : partR r = false := by
          rw [← Bool.not_eq_true]
          intro h
          have := List.all_eq_true.1 h r[k] (List.getElem_mem hk)
          rw [h1, h2] at this; cases this
        rw [partB, this, Bool.and_false]

/-- Behind the bytes that are right. -/
def okTo (l : Bs) (k : Nat) : Prop := ∀ i (h : i < l.length), i < k → (lowB l[i] = true ∨ (0 < i ∧ digB l[i] = true))
theorem okTo_end {l : Bs} (h : okTo l l.length) (h0 : l ≠ []) : partB l = true := by
  cases l with
  | nil => exact absurd rfl h0
  | cons c r =>
    have h1 : lowB c = true := by
      rcases h 0 (by simp) (by simp) with h | ⟨h, _⟩
      · exact h
      · omega
    have h2 : partR r = true := by
      refine List.all_eq_true.2 fun x hx => ?_
      obtain ⟨i, hi, rfl⟩ := List.mem_iff_getElem.1 hx
      rcases h (i + 1) (by simpa using hi) (by simpa using hi) with h | ⟨_, h⟩
      · have h : lowB r[i] = true := h
        rw [h]; rfl
      · have h : digB r[i] = true := h
        rw [h, Bool.or_true]
    rw [partB, h1, h2]; rfl

theorem bytes_get (s : ByteArray) (k : Nat) (h : k < s.size) : (bytes s)[k]'(by rw [bytes_len]; exact h) = s[k] := rfl
theorem lowB_nat (c : UInt8) : lowB c = ((decide (97 ≤ c.toNat) && decide (c.toNat ≤ 122)) || decide (c.toNat = 95)) := by
  unfold lowB
  rw [Bool.eq_iff_iff]; simp [UInt8.le_iff_toNat_le, ← UInt8.toNat_inj]
theorem digB_nat (c : UInt8) : digB c = (decide (48 ≤ c.toNat) && decide (c.toNat ≤ 57)) := by
  unfold digB
  rw [Bool.eq_iff_iff]; simp [UInt8.le_iff_toNat_le]
theorem okTo_step {s : ByteArray} {k : Nat} (h : okTo (bytes s) k) (hk : k < s.size) (hb : lowB s[k] = true ∨ (0 < k ∧ digB s[k] = true)) : okTo (bytes s) (k + 1) := by
  intro i hi hlt
  rcases Nat.lt_succ_iff_lt_or_eq.1 hlt with h' | rfl
  · exact h i hi h'
  · rw [bytes_get _ _ hk]; exact hb

theorem str_some (s : ByteArray) (h : 0 < s.size) : s.toList.isEmpty = false := by
  rw [Lib.toList_data]
  have := bytes_len s
  unfold bytes at this
  cases hl : s.data.toList with
  | nil => rw [hl] at this; simp at this; omega
  | cons a t => rfl

set_option maxRecDepth 100000 in
set_option maxHeartbeats 2000000 in
theorem part_any (s : ByteArray) (w : World) (hs : s.size ≤ 9223372036854775807) :
    Calls Tryz.prog 28 #[.string s] w fun e w' => e = .returned (.bool (partB (bytes s))) ∧ w = w' := by
  obtain ⟨R, hR⟩ : ∃ R, R = partB (bytes s) := ⟨_, rfl⟩
  rw [← hR]
  have HR := Lib.hid hR
  clear hR
  by_cases h0 : s.size = 0
  · have HF := Lib.hid (show R = false by rw [HR.out, show bytes s = [] from List.length_eq_zero_iff.1 (by rw [bytes_len]; exact h0)]; rfl)
    obtain rfl : s = { data := #[] } := by
      apply ByteArray.ext
      exact Array.eq_empty_of_size_eq_zero h0
    clear h0
    go_enter Tryz.func28, Tryz.ntmps28
    go_wp2_with fail
    go_loopg [8] 0 (fun g v wr => v = .int .i64 0 ∧ g = 0 ∧ wr = w)
    case atStart => exact ⟨rfl, rfl, rfl⟩
    case round =>
      obtain ⟨rfl, hg, rfl⟩ := hrel
      clear hg
      go_wp2_with fail
      go_ret
      exact ⟨by rw [HF.out]; rfl, rfl⟩
  have hs0 : 0 < s.size := by omega
  have hne : s.toList.isEmpty = false := str_some s hs0
  go_enter Tryz.func28, Tryz.ntmps28
  go_wp2_with fail
  go_loopg [8] s.size (fun g v wr => ∃ k : Nat, v = .int .i64 k ∧ k ≤ s.size ∧ g = s.size - k ∧ wr = w ∧ okTo (bytes s) k)
  case atStart => exact ⟨0, rfl, Nat.zero_le _, rfl, rfl, fun i _ h => absurd h (Nat.not_lt_zero _)⟩
  case round =>
    obtain ⟨k, rfl, hk, hg, rfl, ho⟩ := hrel
    have HO := Lib.hid ho; have HG := Lib.hid hg
    clear ho hg
    by_cases hlt : k < s.size
    · have hlt' : (k : Int) < s.size := by omega
      have hkl : k < (bytes s).length := by rw [bytes_len]; exact hlt
      have HB := Lib.hid (partB_take (bytes s) k hkl)
      have HL := Lib.hid (lowB_nat s[k])
      have HD := Lib.hid (digB_nat s[k])
      have HST := Lib.hid (okTo_step HO.out hlt)
      have hc : ((97 : Int) ≤ s[k].toNat ∧ (s[k].toNat : Int) ≤ 122) ∨ s[k].toNat = 95 ∨ ((48 : Int) ≤ s[k].toNat ∧ (s[k].toNat : Int) ≤ 57) ∨ (s[k].toNat : Int) < 48 ∨ ((57 : Int) < s[k].toNat ∧ (s[k].toNat : Int) < 95) ∨ s[k].toNat = 96 ∨ (122 : Int) < s[k].toNat := by omega
      rcases hc with ⟨a1, a2⟩ | hc | ⟨a1, a2⟩ | a1 | ⟨a1, a2⟩ | hc | a1
      · have HX := Lib.hid (HST.out (.inl (by rw [HL.out]; simp; omega)))
        go_wp2_with fail
        go_roundg (s.size - (k + 1))
        case measure => have := HG.out; omega
        case rel => exact ⟨k + 1, by go_num, by omega, rfl, rfl, HX.out⟩
      · have HX := Lib.hid (HST.out (.inl (by rw [HL.out]; simp; omega)))
        have b1 : (s[k].toNat : Int) < 97 := by omega
        have b2 : ((s[k].toNat : Int) == 95) = true := by simp; omega
        clear hc
        go_wp2_with fail
        go_roundg (s.size - (k + 1))
        case measure => have := HG.out; omega
        case rel => exact ⟨k + 1, by go_num, by omega, rfl, rfl, HX.out⟩
      all_goals
        have b1 : (s[k].toNat : Int) < 97 ∨ (122 : Int) < s[k].toNat := by omega
        have b2 : ((s[k].toNat : Int) == 95) = false := by simp; omega
        have HLF := Lib.hid (show lowB s[k] = false by rw [HL.out]; simp; omega)
        rcases b1 with b1 | b1
        all_goals first | (exfalso; omega) | skip
        all_goals try (have b3 : decide ((s[k].toNat : Int) ≤ 122) = false := by simp; omega)
        all_goals
          by_cases hk0 : k = 0
          · have HF := Lib.hid (show R = false by rw [HR.out]; exact HB.out.1 hk0 HLF.out)
            subst hk0
            try clear hc
            clear HB HL HD HST HLF
            go_wp2_with fail
            go_ret
            exact ⟨by rw [HF.out]; rfl, rfl⟩
          · have hk1 : 0 < k := by omega
            have hk2 : ((k : Int) == 0) = false := by simp; omega
            clear hk0
            first
              | (have d1 : (48 : Int) ≤ s[k].toNat := by omega
                 have d2 : (s[k].toNat : Int) ≤ 57 := by omega
                 have HX := Lib.hid (HST.out (.inr ⟨hk1, by rw [HD.out]; simp; omega⟩))
                 go_wp2_with fail
                 go_roundg (s.size - (k + 1))
                 case measure => have := HG.out; omega
                 case rel => exact ⟨k + 1, by go_num, by omega, rfl, rfl, HX.out⟩)
              | (have HF := Lib.hid (show R = false by rw [HR.out]; exact HB.out.2 HLF.out (by show digB s[k] = false; rw [HD.out]; simp; omega))
                 first
                   | (have d1 : (s[k].toNat : Int) < 48 := by omega
                      go_wp2_with fail
                      go_ret
                      exact ⟨by rw [HF.out]; rfl, rfl⟩)
                   | (have d1 : (48 : Int) ≤ s[k].toNat := by omega
                      have d2 : (57 : Int) < s[k].toNat := by omega
                      try clear hc
                      go_wp2_with fail
                      go_ret
                      exact ⟨by rw [HF.out]; rfl, rfl⟩))
    · obtain rfl : k = s.size := by omega
      have HT := Lib.hid (show R = true by rw [HR.out]; exact okTo_end (by rw [bytes_len]; exact HO.out) (fun e => by have := bytes_len s; rw [e] at this; simp at this; omega))
      go_wp2_with fail
      go_ret
      exact ⟨by rw [HT.out]; rfl, rfl⟩
end Go.Proofs.YtpijolcklmdjbaaGreatDoor

namespace Go.Proofs.YtpijolcklmdjbaaGreatDoor
open Go.RowKit Go.Lib Go.WideShapes

/-- The words that are taken lie where the program says. -/
def TakenAt (w : World) : Prop := ∀ (i : Nat) (x : Bs), takenL[i]? = some x → w.cell? ⟨1, i, none⟩ = some (.string ⟨x.toArray⟩)
theorem TakenAt.lt {w : World} (h : TakenAt w) : 1 < w.heap.size := World.block_lt_of_cell? w ⟨1, 0, none⟩ (h 0 _ rfl)
theorem TakenAt.step {w w' : World} (h : TakenAt w) (hb : Below w.heap.size w w') : TakenAt w' := fun i x hx => (hb.cell (p := ⟨1, i, none⟩) h.lt).trans (h i x hx)

theorem taken_step (l : Bs) (k : Nat) (x : Bs) (h : takenL[k]? = some x) : (takenL.drop k).any (fun y => l == y) = ((l == x) || (takenL.drop (k + 1)).any (fun y => l == y)) := by
  rw [List.drop_eq_getElem_cons (List.getElem?_eq_some_iff.1 h).1, List.any_cons, (List.getElem?_eq_some_iff.1 h).2]

set_option maxRecDepth 100000 in
theorem taken_index (k : Nat) (x : Bs) (h : takenL[k]? = some x) (w : World) : (Instr.index 126 (.agg #[.string { data := #[97, 108, 108] }, .string { data := #[100, 101, 102, 97, 117, 108, 116] }, .string { data := #[102, 114, 111, 109] }, .string { data := #[108, 111, 99, 97, 108] }, .string { data := #[111, 110] }, .string { data := #[115, 101, 115, 115, 105, 111, 110] }, .string { data := #[116, 111] }, .string { data := #[111, 102, 102] }, .string { data := #[116, 114, 117, 101] }, .string { data := #[102, 97, 108, 115, 101] }]) (.int .i64 k)).run Tryz.prog w = .ok (.string ⟨x.toArray⟩) w := by
  have hk : k < 10 := (List.getElem?_eq_some_iff.1 h).1
  rcases (by omega : k = 0 ∨ k = 1 ∨ k = 2 ∨ k = 3 ∨ k = 4 ∨ k = 5 ∨ k = 6 ∨ k = 7 ∨ k = 8 ∨ k = 9) with rfl | rfl | rfl | rfl | rfl | rfl | rfl | rfl | rfl | rfl
  all_goals (cases h; rfl)

set_option maxRecDepth 100000 in
set_option maxHeartbeats 2000000 in
theorem taken_any (s : ByteArray) (w : World) (hT : TakenAt w) :
    Calls Tryz.prog 56 #[.string s] w fun e w' => e = .returned (.bool (takenB (bytes s))) ∧ w = w' := by
  obtain ⟨R, hR⟩ : ∃ R, R = takenB (bytes s) := ⟨_, rfl⟩
  rw [← hR]
  have HR := Lib.hid (show R = (takenL.drop 0).any (fun y => bytes s == y) from hR)
  have c0 := hT 0 _ rfl
  have c1 := hT 1 _ rfl
  have c2 := hT 2 _ rfl
  have c3 := hT 3 _ rfl
  have c4 := hT 4 _ rfl
  have c5 := hT 5 _ rfl
  have c6 := hT 6 _ rfl
  have c7 := hT 7 _ rfl
  have c8 := hT 8 _ rfl
  have c9 := hT 9 _ rfl
  clear hR hT
  go_enter Tryz.func56, Tryz.ntmps56
  go_wp2_with fail
  go_loopg [6] 10 (fun g v wr => ∃ k : Nat, v = .int .i64 k ∧ k ≤ 10 ∧ g = 10 - k ∧ wr = w ∧ R = (takenL.drop k).any (fun y => bytes s == y))
  case atStart => exact ⟨0, rfl, Nat.zero_le _, rfl, rfl, HR.out⟩
  case round =>
    obtain ⟨k, rfl, hk, hg, rfl, ho⟩ := hrel
    have HO := Lib.hid ho; have HG := Lib.hid hg
    clear ho hg
    by_cases hlt : k < 10
    · obtain ⟨x, hx⟩ : ∃ x, takenL[k]? = some x := ⟨_, List.getElem?_eq_getElem (by show k < 10; exact hlt)⟩
      have hI := taken_index k x hx wr
      have hlt' : (k : Int) < 10 := by omega
      have HS := Lib.hid (taken_step (bytes s) k x hx)
      clear hx
      cases hb : (bytes s == x) with
      | true =>
        have HT := Lib.hid (show R = true by rw [HO.out, HS.out, hb]; rfl)
        have hb2 : (s.toList == x) = true := by rw [Lib.toList_data]; exact hb
        clear hb
        go_wp2_with fail
        go_ret
        exact ⟨by rw [HT.out]; rfl, rfl⟩
      | false =>
        have HN := Lib.hid (show R = (takenL.drop (k + 1)).any (fun y => bytes s == y) by rw [HO.out, HS.out, hb]; rfl)
        have hb2 : (s.toList == x) = false := by rw [Lib.toList_data]; exact hb
        clear hb
        go_wp2_with fail
        go_roundg (10 - (k + 1))
        case measure => have := HG.out; omega
        case rel => exact ⟨k + 1, by go_num, by omega, rfl, rfl, HN.out⟩
    · obtain rfl : k = 10 := by omega
      have HF := Lib.hid (show R = false from HO.out)
      go_wp2_with fail
      go_ret
      exact ⟨by rw [HF.out]; rfl, rfl⟩
end Go.Proofs.YtpijolcklmdjbaaGreatDoor

namespace Go.Proofs.YtpijolcklmdjbaaGreatDoor
open Go.RowKit Go.Lib Go.WideShapes

set_option maxRecDepth 100000 in
set_option maxHeartbeats 2000000 in
/-- A text between two marks, each mark in it twice. -/
theorem quote_any (c : UInt8) (s : ByteArray) (m : Int) (w : World) (hs : s.size ≤ 100000) (hm : w.cell? ⟨2, 0, none⟩ = some (.int .i64 m)) :
    Calls Tryz.prog 54 #[.string s, .string ⟨#[c]⟩] w fun e w' => e = .returned (.string ⟨(c :: (doubled c (bytes s) ++ [c])).toArray⟩) ∧ Below w.heap.size w w' := by
  have hR := Tryz.strings_ReplaceAll s ⟨#[c]⟩ ⟨#[c, c]⟩ m w (by omega) hm (by show 1 ≤ 1; omega) (by have := countB_one s c; show s.size + Lib.countB s ⟨#[c]⟩ * 2 ≤ _; omega)
  rw [show Lib.replaceAll s.data.toList (⟨#[c]⟩ : ByteArray).data.toList (⟨#[c, c]⟩ : ByteArray).data.toList = doubled c (bytes s) from replaceAll_doubled c _] at hR
  have hl : (doubled c (bytes s)).length ≤ 200000 := by
    rw [doubled_length, bytes_len]
    have : (bytes s).count c ≤ (bytes s).length := List.count_le_length
    rw [bytes_len] at this; omega
  have HR := Lib.hid hR
  generalize doubled c (bytes s) = D at HR hl ⊢
  clear hR hm
  obtain ⟨X, hX⟩ : ∃ X : ByteArray, X = ⟨D.toArray⟩ := ⟨_, rfl⟩
  have hXs : X.size ≤ 200000 := by rw [hX, str_size]; exact hl
  have HX := Lib.hid (show (⟨#[c]⟩ : ByteArray) ++ X ++ ⟨#[c]⟩ = ⟨(c :: (D ++ [c])).toArray⟩ by rw [hX, show (⟨#[c]⟩ : ByteArray) = ⟨[c].toArray⟩ from rfl, str_cat, str_cat]; rfl)
  rw [← hX] at HR
  clear hX hl
  go_enter Tryz.func54, Tryz.ntmps54
  go_wp2_with fail
  refine HR.out.mono ?_; rintro e w1 ⟨rfl, hb1⟩
  have HB1 := Lib.hid hb1
  clear hb1 HR
  go_wp2_with fail
  go_ret
  exact ⟨by rw [← HX.out]; rfl, HB1.out⟩
end Go.Proofs.YtpijolcklmdjbaaGreatDoor

namespace Go.Proofs.YtpijolcklmdjbaaGreatDoor
open Go.RowKit Go.Lib Go.WideShapes

/-- Is it a name? -/
def goodB (l : Bs) : Bool := decide (l.length ≤ 63) && (partB (Lib.cut l [46]).1 && (!(Lib.cut l [46]).2.2 || partB (Lib.cut l [46]).2.1))
def identB (l : Bs) : Bs := if partB l && !takenB l then l else quoted 34 l

theorem cut_length (l : Bs) : (Lib.cut l [46]).1.length ≤ l.length ∧ (Lib.cut l [46]).2.1.length ≤ l.length := by
  unfold Lib.cut
  split
  · exact ⟨by rw [List.length_take]; omega, by rw [List.length_drop]; omega⟩
  · exact ⟨Nat.le_refl _, Nat.zero_le _⟩

set_option maxRecDepth 100000 in
set_option maxHeartbeats 2000000 in
theorem good_any (s : ByteArray) (m : Int) (w : World) (hs : s.size ≤ 100000) (hm : w.cell? ⟨2, 0, none⟩ = some (.int .i64 m)) :
    Calls Tryz.prog 16 #[.string s] w fun e w' => e = .returned (.bool (goodB (bytes s))) ∧ ∃ n, w' = w.drewN n := by
  have hg : goodB (bytes s) = (decide (s.size ≤ 63) && (partB (Lib.cut (bytes s) [46]).1 && (!(Lib.cut (bytes s) [46]).2.2 || partB (Lib.cut (bytes s) [46]).2.1))) := by unfold goodB; rw [bytes_len]
  rw [hg]
  have hcl := cut_length (bytes s)
  rw [bytes_len] at hcl
  have HC := Lib.hid (Tryz.strings_Cut s ⟨#[46]⟩ m w (by omega) hm)
  rw [show (⟨#[46]⟩ : ByteArray).data.toList = [46] from rfl, show s.data.toList = bytes s from rfl] at HC
  generalize Lib.cut (bytes s) [46] = q at hcl HC ⊢
  obtain ⟨x, y, two⟩ := q
  simp only at hcl HC ⊢
  have HX := Lib.hid (fun W => part_any ⟨x.toArray⟩ W (by rw [str_size]; omega))
  have HY := Lib.hid (fun W => part_any ⟨y.toArray⟩ W (by rw [str_size]; omega))
  rw [show bytes ⟨x.toArray⟩ = x by simp [bytes]] at HX
  rw [show bytes ⟨y.toArray⟩ = y by simp [bytes]] at HY
  generalize partB x = px at HX ⊢
  generalize partB y = py at HY ⊢
  clear hg hcl hm
  by_cases hl : s.size ≤ 63
  · have hl' : (s.size : Int) ≤ 63 := by omega
    rw [decide_eq_true hl, Bool.true_and]
    go_enter Tryz.func16, Tryz.ntmps16
    go_wp2_with fail
    refine HC.out.mono ?_; rintro e w1 ⟨rfl, n, rfl⟩
    go_wp2_with fail
    refine (HX.out _).mono ?_; rintro e w2 ⟨rfl, rfl⟩
    cases px with
    | false =>
      go_wp2_with fail
      go_ret
      exact ⟨rfl, n, rfl⟩
    | true =>
      cases two with
      | false =>
        go_wp2_with fail
        go_ret
        exact ⟨rfl, n, rfl⟩
      | true =>
        go_wp2_with fail
        refine (HY.out _).mono ?_; rintro e w3 ⟨rfl, rfl⟩
        go_wp2_with fail
        go_ret
        exact ⟨rfl, n, rfl⟩
  · have hl' : (63 : Int) < s.size := by omega
    rw [decide_eq_false hl, Bool.false_and]
    go_enter Tryz.func16, Tryz.ntmps16
    go_wp2_with fail
    go_ret
    exact ⟨rfl, 0, rfl⟩

set_option maxRecDepth 100000 in
set_option maxHeartbeats 2000000 in
theorem ident_any (s : ByteArray) (m : Int) (w : World) (hs : s.size ≤ 100000) (hm : w.cell? ⟨2, 0, none⟩ = some (.int .i64 m)) (hT : TakenAt w) :
    Calls Tryz.prog 32 #[.string s] w fun e w' => e = .returned (.string ⟨(identB (bytes s)).toArray⟩) ∧ Below w.heap.size w w' := by
  have HP := Lib.hid (part_any s w (by omega))
  have HK := Lib.hid (taken_any s w hT)
  have HQ := Lib.hid (quote_any 34 s m w hs hm)
  have hi : identB (bytes s) = if partB (bytes s) && !takenB (bytes s) then bytes s else quoted 34 (bytes s) := rfl
  rw [hi]
  have HE := Lib.hid (show (⟨(bytes s).toArray⟩ : ByteArray) = s by simp [bytes])
  generalize partB (bytes s) = p at HP ⊢
  generalize takenB (bytes s) = t at HK ⊢
  clear hi hT hm
  cases p with
  | false =>
    go_enter Tryz.func32, Tryz.ntmps32
    go_wp2_with fail
    refine HP.out.mono ?_; rintro e w1 ⟨rfl, rfl⟩
    go_wp2_with fail
    refine HQ.out.mono ?_; rintro e w1 ⟨rfl, hb⟩
    have HB := Lib.hid hb
    clear hb
    go_wp2_with fail
    go_ret
    exact ⟨rfl, HB.out⟩
  | true =>
    cases t with
    | true =>
      go_enter Tryz.func32, Tryz.ntmps32
      go_wp2_with fail
      refine HP.out.mono ?_; rintro e w1 ⟨rfl, rfl⟩
      go_wp2_with fail
      refine HK.out.mono ?_; rintro e w1 ⟨rfl, rfl⟩
      go_wp2_with fail
      refine HQ.out.mono ?_; rintro e w1 ⟨rfl, hb⟩
      have HB := Lib.hid hb
      clear hb
      go_wp2_with fail
      go_ret
      exact ⟨rfl, HB.out⟩
    | false =>
      go_enter Tryz.func32, Tryz.ntmps32
      go_wp2_with fail
      refine HP.out.mono ?_; rintro e w1 ⟨rfl, rfl⟩
      go_wp2_with fail
      refine HK.out.mono ?_; rintro e w1 ⟨rfl, rfl⟩
      go_wp2_with fail
      go_ret
      exact ⟨rfl, Below.refl _ _⟩

set_option maxRecDepth 100000 in
set_option maxHeartbeats 2000000 in
theorem literal_any (s : ByteArray) (m : Int) (w : World) (hs : s.size ≤ 100000) (hm : w.cell? ⟨2, 0, none⟩ = some (.int .i64 m)) :
    Calls Tryz.prog 30 #[.string s] w fun e w' => e = .returned (.string ⟨(quoted 39 (bytes s)).toArray⟩) ∧ Below w.heap.size w w' := by
  have HQ := Lib.hid (quote_any 39 s m w hs hm)
  clear hm
  go_enter Tryz.func30, Tryz.ntmps30
  go_wp2_with fail
  refine HQ.out.mono ?_; rintro e w1 ⟨rfl, hb⟩
  have HB := Lib.hid hb
  clear hb
  go_wp2_with fail
  go_ret
  exact ⟨rfl, HB.out⟩
end Go.Proofs.YtpijolcklmdjbaaGreatDoor
