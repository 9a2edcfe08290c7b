/- A part of a name; the words that are taken. -/
import Derived.Test.YtpijolcklmdjbaaDoorSkip
import Derived.Deep.LoopGhost
namespace Go.Proofs.YtpijolcklmdjbaaDoor
open Go.RowKit Go.Lib Go.WideShapes

def lowB (c : UInt8) : Bool := (97 ≤ c && c ≤ 122) || c == 95
def digB (c : UInt8) : Bool := 48 ≤ c && c ≤ 57
def partR (l : Bs) : Bool := l.all fun c => lowB c || digB c
def partB : Bs → Bool
  | [] => false
  | c :: r => lowB c && partR r

def takenL : List Bs := [[97, 108, 108], [100, 101, 102, 97, 117, 108, 116], [102, 114, 111, 109], [108, 111, 99, 97, 108], [111, 110], [115, 101, 115, 115, 105, 111, 110], [116, 111], [111, 102, 102], [116, 114, 117, 101], [102, 97, 108, 115, 101]]
def takenB (l : Bs) : Bool := takenL.any (fun x => l == x)

theorem partB_take (l : Bs) (k : Nat) (hk : k < l.length) : (k = 0 → lowB (l[k]) = false → partB l = false) ∧ (lowB (l[k]) = false → digB (l[k]) = false → partB l = false) := by
  cases l with
  | nil => simp at hk
  | cons c r =>
    refine ⟨fun h0 h => ?_, fun h1 h2 => ?_⟩
    · subst h0
      have h : lowB c = false := h
      rw [partB, h]; rfl
    · cases k with
      | zero =>
        have h1 : lowB c = false := h1
        rw [partB, h1]; rfl
      | succ k =>
        have hk : k < r.length := by simpa using hk
        have h1 : lowB r[k] = false := h1
        have h2 : digB r[k] = false := h2
        have : partR r = false := by
          rw [← Bool.not_eq_true]
          intro h
          have := List.all_eq_true.1 h r[k] (List.getElem_mem hk)
          rw [h1, h2] at this; cases this
        rw [partB, this, Bool.and_false]

/-- Behind the bytes that are right. -/
def okTo (l : Bs) (k : Nat) : Prop := ∀ i (h : i < l.length), i < k → (lowB l[i] = true ∨ (0 < i ∧ digB l[i] = true))
theorem okTo_end {l : Bs} (h : okTo l l.length) (h0 : l ≠ []) : partB l = true := by
  cases l with
  | nil => exact absurd rfl h0
  | cons c r =>
    have h1 : lowB c = true := by
      rcases h 0 (by simp) (by simp) with h | ⟨h, _⟩
      · exact h
      · omega
    have h2 : partR r = true := by
      refine List.all_eq_true.2 fun x hx => ?_
      obtain ⟨i, hi, rfl⟩ := List.mem_iff_getElem.1 hx
      rcases h (i + 1) (by simpa using hi) (by simpa using hi) with h | ⟨_, h⟩
      · have h : lowB r[i] = true := h
        rw [h]; rfl
      · have h : digB r[i] = true := h
        rw [h, Bool.or_true]
    rw [partB, h1, h2]; rfl

theorem bytes_get (s : ByteArray) (k : Nat) (h : k < s.size) : (bytes s)[k]'(by rw [bytes_len]; exact h) = s[k] := rfl
theorem lowB_nat (c : UInt8) : lowB c = ((decide (97 ≤ c.toNat) && decide (c.toNat ≤ 122)) || decide (c.toNat = 95)) := by
  unfold lowB
  rw [Bool.eq_iff_iff]; simp [UInt8.le_iff_toNat_le, ← UInt8.toNat_inj]
theorem digB_nat (c : UInt8) : digB c = (decide (48 ≤ c.toNat) && decide (c.toNat ≤ 57)) := by
  unfold digB
  rw [Bool.eq_iff_iff]; simp [UInt8.le_iff_toNat_le]
theorem okTo_step {s : ByteArray} {k : Nat} (h : okTo (bytes s) k) (hk : k < s.size) (hb : lowB s[k] = true ∨ (0 < k ∧ digB s[k] = true)) : okTo (bytes s) (k + 1) := by
  intro i hi hlt
  rcases Nat.lt_succ_iff_lt_or_eq.1 hlt with h' | rfl
  · exact h i hi h'
  · rw [bytes_get _ _ hk]; exact hb

theorem str_some (s : ByteArray) (h : 0 < s.size) : s.toList.isEmpty = false := by
  rw [Lib.toList_data]
  have := bytes_len s
  unfold bytes at this
  cases hl : s.data.toList with
  | nil => rw [hl] at this; simp at this; omega
  | cons a t => rfl

set_option maxHeartbeats 2000000 in
theorem part_any (s : ByteArray) (w : World) (hs : s.size ≤ 9223372036854775807) :
    Calls Tryd.prog 17 #[.string s] w fun e w' => e = .returned (.bool (partB (bytes s))) ∧ w = w' := by
  obtain ⟨R, hR⟩ : ∃ R, R = partB (bytes s) := ⟨_, rfl⟩
  rw [← hR]
  have HR := Lib.hid hR
  clear hR
  by_cases h0 : s.size = 0
  · have HF := Lib.hid (show R = false by rw [HR.out, show bytes s = [] from List.length_eq_zero_iff.1 (by rw [bytes_len]; exact h0)]; rfl)
    obtain rfl : s = { data := #[] } := by
      apply ByteArray.ext
      exact Array.eq_empty_of_size_eq_zero h0
    clear h0
    go_enter Tryd.func17, Tryd.ntmps17
    go_wp2_with fail
    go_loopg [8] 0 (fun g v wr => v = .int .i64 0 ∧ g = 0 ∧ wr = w)
    case atStart => exact ⟨rfl, rfl, rfl⟩
    case round =>
      obtain ⟨rfl, hg, rfl⟩ := hrel
      clear hg
      go_wp2_with fail
      go_ret
      exact ⟨by rw [HF.out]; rfl, rfl⟩
  have hs0 : 0 < s.size := by omega
  have hne : s.toList.isEmpty = false := str_some s hs0
  go_enter Tryd.func17, Tryd.ntmps17
  go_wp2_with fail
  go_loopg [8] s.size (fun g v wr => ∃ k : Nat, v = .int .i64 k ∧ k ≤ s.size ∧ g = s.size - k ∧ wr = w ∧ okTo (bytes s) k)
  case atStart => exact ⟨0, rfl, Nat.zero_le _, rfl, rfl, fun i _ h => absurd h (Nat.not_lt_zero _)⟩
  case round =>
    obtain ⟨k, rfl, hk, hg, rfl, ho⟩ := hrel
    have HO := Lib.hid ho; have HG := Lib.hid hg
    clear ho hg
    by_cases hlt : k < s.size
    · have hlt' : (k : Int) < s.size := by omega
      have hkl : k < (bytes s).length := by rw [bytes_len]; exact hlt
      have HB := Lib.hid (partB_take (bytes s) k hkl)
      have HL := Lib.hid (lowB_nat s[k])
      have HD := Lib.hid (digB_nat s[k])
      have HST := Lib.hid (okTo_step HO.out hlt)
      have hc : ((97 : Int) ≤ s[k].toNat ∧ (s[k].toNat : Int) ≤ 122) ∨ s[k].toNat = 95 ∨ ((48 : Int) ≤ s[k].toNat ∧ (s[k].toNat : Int) ≤ 57) ∨ (s[k].toNat : Int) < 48 ∨ ((57 : Int) < s[k].toNat ∧ (s[k].toNat : Int) < 95) ∨ s[k].toNat = 96 ∨ (122 : Int) < s[k].toNat := by omega
      rcases hc with ⟨a1, a2⟩ | hc | ⟨a1, a2⟩ | a1 | ⟨a1, a2⟩ | hc | a1
      · have HX := Lib.hid (HST.out (.inl (by rw [HL.out]; simp; omega)))
        go_wp2_with fail
        go_roundg (s.size - (k + 1))
        case measure => have := HG.out; omega
        case rel => exact ⟨k + 1, by go_num, by omega, rfl, rfl, HX.out⟩
      · have HX := Lib.hid (HST.out (.inl (by rw [HL.out]; simp; omega)))
        have b1 : (s[k].toNat : Int) < 97 := by omega
        have b2 : ((s[k].toNat : Int) == 95) = true := by simp; omega
        clear hc
        go_wp2_with fail
        go_roundg (s.size - (k + 1))
        case measure => have := HG.out; omega
        case rel => exact ⟨k + 1, by go_num, by omega, rfl, rfl, HX.out⟩
      all_goals
        have b1 : (s[k].toNat : Int) < 97 ∨ (122 : Int) < s[k].toNat := by omega
        have b2 : ((s[k].toNat : Int) == 95) = false := by simp; omega
        have HLF := Lib.hid (show lowB s[k] = false by rw [HL.out]; simp; omega)
        rcases b1 with b1 | b1
        all_goals first | (exfalso; omega) | skip
        all_goals try (have b3 : decide ((s[k].toNat : Int) ≤ 122) = false := by simp; omega)
        all_goals
          by_cases hk0 : k = 0
          · have HF := Lib.hid (show R = false by rw [HR.out]; exact HB.out.1 hk0 HLF.out)
            subst hk0
            try clear hc
            clear HB HL HD HST HLF
            go_wp2_with fail
            go_ret
            exact ⟨by rw [HF.out]; rfl, rfl⟩
          · have hk1 : 0 < k := by omega
            have hk2 : ((k : Int) == 0) = false := by simp; omega
            clear hk0
            first
              | (have d1 : (48 : Int) ≤ s[k].toNat := by omega
                 have d2 : (s[k].toNat : Int) ≤ 57 := by omega
                 have HX := Lib.hid (HST.out (.inr ⟨hk1, by rw [HD.out]; simp; omega⟩))
                 go_wp2_with fail
                 go_roundg (s.size - (k + 1))
                 case measure => have := HG.out; omega
                 case rel => exact ⟨k + 1, by go_num, by omega, rfl, rfl, HX.out⟩)
              | (have HF := Lib.hid (show R = false by rw [HR.out]; exact HB.out.2 HLF.out (by show digB s[k] = false; rw [HD.out]; simp; omega))
                 first
                   | (have d1 : (s[k].toNat : Int) < 48 := by omega
                      go_wp2_with fail
                      go_ret
                      exact ⟨by rw [HF.out]; rfl, rfl⟩)
                   | (have d1 : (48 : Int) ≤ s[k].toNat := by omega
                      have d2 : (57 : Int) < s[k].toNat := by omega
                      try clear hc
                      go_wp2_with fail
                      go_ret
                      exact ⟨by rw [HF.out]; rfl, rfl⟩))
    · obtain rfl : k = s.size := by omega
      have HT := Lib.hid (show R = true by rw [HR.out]; exact okTo_end (by rw [bytes_len]; exact HO.out) (fun e => by have := bytes_len s; rw [e] at this; simp at this; omega))
      go_wp2_with fail
      go_ret
      exact ⟨by rw [HT.out]; rfl, rfl⟩
end Go.Proofs.YtpijolcklmdjbaaDoor
