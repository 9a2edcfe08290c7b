/- Contracts and mathematics: NPart, NTaken, Doubled, NRepl, NGood, NNameM. -/
import Derived.Test.YtgopajddloeclaaDoorZ3
import Derived.Deep.LoopGhost
namespace Go.Proofs.YtgopajddloeclaaDoor
open Go.RowKit Go.Lib Go.WideShapes

def lowB (c : UInt8) : Bool := (97 ≤ c && c ≤ 122) || c == 95
def digB (c : UInt8) : Bool := 48 ≤ c && c ≤ 57
def partR (l : Bs) : Bool := l.all fun c => lowB c || digB c
def partB : Bs → Bool
  | [] => false
  | c :: r => lowB c && partR r

def takenL : List Bs := [[97, 108, 108], [100, 101, 102, 97, 117, 108, 116], [102, 114, 111, 109], [108, 111, 99, 97, 108], [111, 110], [115, 101, 115, 115, 105, 111, 110], [116, 111], [111, 102, 102], [116, 114, 117, 101], [102, 97, 108, 115, 101]]
def takenB (l : Bs) : Bool := takenL.any (fun x => l == x)

theorem partB_take (l : Bs) (k : Nat) (hk : k < l.length) : (k = 0 → lowB (l[k]) = false → partB l = false) ∧ (lowB (l[k]) = false → digB (l[k]) = false → partB l = false) := by
  cases l with
  | nil => simp at hk
  | cons c r =>
    refine ⟨fun h0 h => ?_, fun h1 h2 => ?_⟩
    · subst h0
      have h : lowB c = false := h
      rw [partB, h]; rfl
    · cases k with
      | zero =>
        have h1 : lowB c = false := h1
        rw [partB, h1]; rfl
      | succ k =>
        have hk : k < r.length := by simpa using hk
        have h1 : lowB r[k] = false := h1
        have h2 : digB r[k] = false := h2
        have : partR r = false := by
          rw [← Bool.not_eq_true]
          intro h
          have := List.all_eq_true.1 h r[k] (List.getElem_mem hk)
          rw [h1, h2] at this; cases this
        rw [partB, this, Bool.and_false]

/-- Behind the bytes that are right. -/
def okTo (l : Bs) (k : Nat) : Prop := ∀ i (h : i < l.length), i < k → (lowB l[i] = true ∨ (0 < i ∧ digB l[i] = true))
theorem okTo_end {l : Bs} (h : okTo l l.length) (h0 : l ≠ []) : partB l = true := by
  cases l with
  | nil => exact absurd rfl h0
  | cons c r =>
    have h1 : lowB c = true := by
      rcases h 0 (by simp) (by simp) with h | ⟨h, _⟩
      · exact h
      · omega
    have h2 : partR r = true := by
      refine List.all_eq_true.2 fun x hx => ?_
      obtain ⟨i, hi, rfl⟩ := List.mem_iff_getElem.1 hx
      rcases h (i + 1) (by simpa using hi) (by simpa using hi) with h | ⟨_, h⟩
      · have h : lowB r[i] = true := h
        rw [h]; rfl
      · have h : digB r[i] = true := h
        rw [h, Bool.or_true]
    rw [partB, h1, h2]; rfl

theorem bytes_get (s : ByteArray) (k : Nat) (h : k < s.size) : (bytes s)[k]'(by rw [bytes_len]; exact h) = s[k] := rfl
theorem lowB_nat (c : UInt8) : lowB c = ((decide (97 ≤ c.toNat) && decide (c.toNat ≤ 122)) || decide (c.toNat = 95)) := by
  unfold lowB
  rw [Bool.eq_iff_iff]; simp [UInt8.le_iff_toNat_le, ← UInt8.toNat_inj]
theorem digB_nat (c : UInt8) : digB c = (decide (48 ≤ c.toNat) && decide (c.toNat ≤ 57)) := by
  unfold digB
  rw [Bool.eq_iff_iff]; simp [UInt8.le_iff_toNat_le]
theorem okTo_step {s : ByteArray} {k : Nat} (h : okTo (bytes s) k) (hk : k < s.size) (hb : lowB s[k] = true ∨ (0 < k ∧ digB s[k] = true)) : okTo (bytes s) (k + 1) := by
  intro i hi hlt
  rcases Nat.lt_succ_iff_lt_or_eq.1 hlt with h' | rfl
  · exact h i hi h'
  · rw [bytes_get _ _ hk]; exact hb

theorem str_some (s : ByteArray) (h : 0 < s.size) : s.toList.isEmpty = false := by
  rw [Lib.toList_data]
  have := bytes_len s
  unfold bytes at this
  cases hl : s.data.toList with
  | nil => rw [hl] at this; simp at this; omega
  | cons a t => rfl

set_option maxRecDepth 100000 in
set_option maxHeartbeats 2000000 in
theorem part_any (s : ByteArray) (w : World) (hs : s.size ≤ 9223372036854775807) :
    Calls Tryd.prog 35 #[.string s] w fun e w' => e = .returned (.bool (partB (bytes s))) ∧ w = w' := by
  obtain ⟨R, hR⟩ : ∃ R, R = partB (bytes s) := ⟨_, rfl⟩
  rw [← hR]
  have HR := Lib.hid hR
  clear hR
  by_cases h0 : s.size = 0
  · have HF := Lib.hid (show R = false by rw [HR.out, show bytes s = [] from List.length_eq_zero_iff.1 (by rw [bytes_len]; exact h0)]; rfl)
    obtain rfl : s = { data := #[] } := by
      apply ByteArray.ext
      exact Array.eq_empty_of_size_eq_zero h0
    clear h0
    go_enter Tryd.func35, Tryd.ntmps35
    go_wp2_with fail
    go_loopg [8] 0 (fun g v wr => v = .int .i64 0 ∧ g = 0 ∧ wr = w)
    case atStart => exact ⟨rfl, rfl, rfl⟩
    case round =>
      obtain ⟨rfl, hg, rfl⟩ := hrel
      clear hg
      go_wp2_with fail
      go_ret
      exact ⟨by rw [HF.out]; rfl, rfl⟩
  have hs0 : 0 < s.size := by omega
  have hne : s.toList.isEmpty = false := str_some s hs0
  go_enter Tryd.func35, Tryd.ntmps35
  go_wp2_with fail
  go_loopg [8] s.size (fun g v wr => ∃ k : Nat, v = .int .i64 k ∧ k ≤ s.size ∧ g = s.size - k ∧ wr = w ∧ okTo (bytes s) k)
  case atStart => exact ⟨0, rfl, Nat.zero_le _, rfl, rfl, fun i _ h => absurd h (Nat.not_lt_zero _)⟩
  case round =>
    obtain ⟨k, rfl, hk, hg, rfl, ho⟩ := hrel
    have HO := Lib.hid ho; have HG := Lib.hid hg
    clear ho hg
    by_cases hlt : k < s.size
    · have hlt' : (k : Int) < s.size := by omega
      have hkl : k < (bytes s).length := by rw [bytes_len]; exact hlt
      have HB := Lib.hid (partB_take (bytes s) k hkl)
      have HL := Lib.hid (lowB_nat s[k])
      have HD := Lib.hid (digB_nat s[k])
      have HST := Lib.hid (okTo_step HO.out hlt)
      have hc : ((97 : Int) ≤ s[k].toNat ∧ (s[k].toNat : Int) ≤ 122) ∨ s[k].toNat = 95 ∨ ((48 : Int) ≤ s[k].toNat ∧ (s[k].toNat : Int) ≤ 57) ∨ (s[k].toNat : Int) < 48 ∨ ((57 : Int) < s[k].toNat ∧ (s[k].toNat : Int) < 95) ∨ s[k].toNat = 96 ∨ (122 : Int) < s[k].toNat := by omega
      rcases hc with ⟨a1, a2⟩ | hc | ⟨a1, a2⟩ | a1 | ⟨a1, a2⟩ | hc | a1
      · have HX := Lib.hid (HST.out (.inl (by rw [HL.out]; simp; omega)))
        go_wp2_with fail
        go_roundg (s.size - (k + 1))
        case measure => have := HG.out; omega
        case rel => exact ⟨k + 1, by go_num, by omega, rfl, rfl, HX.out⟩
      · have HX := Lib.hid (HST.out (.inl (by rw [HL.out]; simp; omega)))
        have b1 : (s[k].toNat : Int) < 97 := by omega
        have b2 : ((s[k].toNat : Int) == 95) = true := by simp; omega
        clear hc
        go_wp2_with fail
        go_roundg (s.size - (k + 1))
        case measure => have := HG.out; omega
        case rel => exact ⟨k + 1, by go_num, by omega, rfl, rfl, HX.out⟩
      all_goals
        have b1 : (s[k].toNat : Int) < 97 ∨ (122 : Int) < s[k].toNat := by omega
        have b2 : ((s[k].toNat : Int) == 95) = false := by simp; omega
        have HLF := Lib.hid (show lowB s[k] = false by rw [HL.out]; simp; omega)
        rcases b1 with b1 | b1
        all_goals first | (exfalso; omega) | skip
        all_goals try (have b3 : decide ((s[k].toNat : Int) ≤ 122) = false := by simp; omega)
        all_goals
          by_cases hk0 : k = 0
          · have HF := Lib.hid (show R = false by rw [HR.out]; exact HB.out.1 hk0 HLF.out)
            subst hk0
            try clear hc
            clear HB HL HD HST HLF
            go_wp2_with fail
            go_ret
            exact ⟨by rw [HF.out]; rfl, rfl⟩
          · have hk1 : 0 < k := by omega
            have hk2 : ((k : Int) == 0) = false := by simp; omega
            clear hk0
            first
              | (have d1 : (48 : Int) ≤ s[k].toNat := by omega
                 have d2 : (s[k].toNat : Int) ≤ 57 := by omega
                 have HX := Lib.hid (HST.out (.inr ⟨hk1, by rw [HD.out]; simp; omega⟩))
                 go_wp2_with fail
                 go_roundg (s.size - (k + 1))
                 case measure => have := HG.out; omega
                 case rel => exact ⟨k + 1, by go_num, by omega, rfl, rfl, HX.out⟩)
              | (have HF := Lib.hid (show R = false by rw [HR.out]; exact HB.out.2 HLF.out (by show digB s[k] = false; rw [HD.out]; simp; omega))
                 first
                   | (have d1 : (s[k].toNat : Int) < 48 := by omega
                      go_wp2_with fail
                      go_ret
                      exact ⟨by rw [HF.out]; rfl, rfl⟩)
                   | (have d1 : (48 : Int) ≤ s[k].toNat := by omega
                      have d2 : (57 : Int) < s[k].toNat := by omega
                      try clear hc
                      go_wp2_with fail
                      go_ret
                      exact ⟨by rw [HF.out]; rfl, rfl⟩))
    · obtain rfl : k = s.size := by omega
      have HT := Lib.hid (show R = true by rw [HR.out]; exact okTo_end (by rw [bytes_len]; exact HO.out) (fun e => by have := bytes_len s; rw [e] at this; simp at this; omega))
      go_wp2_with fail
      go_ret
      exact ⟨by rw [HT.out]; rfl, rfl⟩
end Go.Proofs.YtgopajddloeclaaDoor

namespace Go.Proofs.YtgopajddloeclaaDoor
open Go.RowKit Go.Lib Go.WideShapes

/-- The words that are taken lie where the program says. -/
def TakenAt (w : World) : Prop := ∀ (i : Nat) (x : Bs), takenL[i]? = some x → w.cell? ⟨1, i, none⟩ = some (.string ⟨x.toArray⟩)
theorem TakenAt.lt {w : World} (h : TakenAt w) : 1 < w.heap.size := World.block_lt_of_cell? w ⟨1, 0, none⟩ (h 0 _ rfl)
theorem TakenAt.step {w w' : World} (h : TakenAt w) (hb : Below w.heap.size w w') : TakenAt w' := fun i x hx => (hb.cell (p := ⟨1, i, none⟩) h.lt).trans (h i x hx)

theorem taken_step (l : Bs) (k : Nat) (x : Bs) (h : takenL[k]? = some x) : (takenL.drop k).any (fun y => l == y) = ((l == x) || (takenL.drop (k + 1)).any (fun y => l == y)) := by
  rw [List.drop_eq_getElem_cons (List.getElem?_eq_some_iff.1 h).1, List.any_cons, (List.getElem?_eq_some_iff.1 h).2]

def takenV : Value := .agg #[.string { data := #[97, 108, 108] }, .string { data := #[100, 101, 102, 97, 117, 108, 116] }, .string { data := #[102, 114, 111, 109] }, .string { data := #[108, 111, 99, 97, 108] }, .string { data := #[111, 110] }, .string { data := #[115, 101, 115, 115, 105, 111, 110] }, .string { data := #[116, 111] }, .string { data := #[111, 102, 102] }, .string { data := #[116, 114, 117, 101] }, .string { data := #[102, 97, 108, 115, 101] }]
set_option maxRecDepth 100000 in
theorem taken_index (k : Nat) (x : Bs) (h : takenL[k]? = some x) (w : World) : (Instr.index 104 (.agg #[.string { data := #[97, 108, 108] }, .string { data := #[100, 101, 102, 97, 117, 108, 116] }, .string { data := #[102, 114, 111, 109] }, .string { data := #[108, 111, 99, 97, 108] }, .string { data := #[111, 110] }, .string { data := #[115, 101, 115, 115, 105, 111, 110] }, .string { data := #[116, 111] }, .string { data := #[111, 102, 102] }, .string { data := #[116, 114, 117, 101] }, .string { data := #[102, 97, 108, 115, 101] }]) (.int .i64 k)).run Tryd.prog w = .ok (.string ⟨x.toArray⟩) w := by
  have hk : k < 10 := (List.getElem?_eq_some_iff.1 h).1
  rcases (by omega : k = 0 ∨ k = 1 ∨ k = 2 ∨ k = 3 ∨ k = 4 ∨ k = 5 ∨ k = 6 ∨ k = 7 ∨ k = 8 ∨ k = 9) with rfl | rfl | rfl | rfl | rfl | rfl | rfl | rfl | rfl | rfl
  all_goals (cases h; rfl)

set_option maxRecDepth 100000 in
set_option maxHeartbeats 2000000 in
theorem taken_any (s : ByteArray) (w : World) (hT : TakenAt w) :
    Calls Tryd.prog 36 #[.string s] w fun e w' => e = .returned (.bool (takenB (bytes s))) ∧ w = w' := by
  obtain ⟨R, hR⟩ : ∃ R, R = takenB (bytes s) := ⟨_, rfl⟩
  rw [← hR]
  have HR := Lib.hid (show R = (takenL.drop 0).any (fun y => bytes s == y) from hR)
  have c0 := hT 0 _ rfl
  have c1 := hT 1 _ rfl
  have c2 := hT 2 _ rfl
  have c3 := hT 3 _ rfl
  have c4 := hT 4 _ rfl
  have c5 := hT 5 _ rfl
  have c6 := hT 6 _ rfl
  have c7 := hT 7 _ rfl
  have c8 := hT 8 _ rfl
  have c9 := hT 9 _ rfl
  clear hR hT
  go_enter Tryd.func36, Tryd.ntmps36
  go_wp2_with fail
  go_loopg [6] 10 (fun g v wr => ∃ k : Nat, v = .int .i64 k ∧ k ≤ 10 ∧ g = 10 - k ∧ wr = w ∧ R = (takenL.drop k).any (fun y => bytes s == y))
  case atStart => exact ⟨0, rfl, Nat.zero_le _, rfl, rfl, HR.out⟩
  case round =>
    obtain ⟨k, rfl, hk, hg, rfl, ho⟩ := hrel
    have HO := Lib.hid ho; have HG := Lib.hid hg
    clear ho hg
    by_cases hlt : k < 10
    · obtain ⟨x, hx⟩ : ∃ x, takenL[k]? = some x := ⟨_, List.getElem?_eq_getElem (by show k < 10; exact hlt)⟩
      have hI := taken_index k x hx wr
      have hlt' : (k : Int) < 10 := by omega
      have HS := Lib.hid (taken_step (bytes s) k x hx)
      clear hx
      cases hb : (bytes s == x) with
      | true =>
        have HT := Lib.hid (show R = true by rw [HO.out, HS.out, hb]; rfl)
        have hb2 : (s.toList == x) = true := by rw [Lib.toList_data]; exact hb
        clear hb
        go_wp2_with fail
        go_ret
        exact ⟨by rw [HT.out]; rfl, rfl⟩
      | false =>
        have HN := Lib.hid (show R = (takenL.drop (k + 1)).any (fun y => bytes s == y) by rw [HO.out, HS.out, hb]; rfl)
        have hb2 : (s.toList == x) = false := by rw [Lib.toList_data]; exact hb
        clear hb
        go_wp2_with fail
        go_roundg (10 - (k + 1))
        case measure => have := HG.out; omega
        case rel => exact ⟨k + 1, by go_num, by omega, rfl, rfl, HN.out⟩
    · obtain rfl : k = 10 := by omega
      have HF := Lib.hid (show R = false from HO.out)
      go_wp2_with fail
      go_ret
      exact ⟨by rw [HF.out]; rfl, rfl⟩
end Go.Proofs.YtgopajddloeclaaDoor

namespace Go.Proofs.YtgopajddloeclaaDoor
open Go.RowKit Go.Lib Go.WideShapes

/-- Each c in it twice. -/
def doubled (c : UInt8) : Bs → Bs
  | [] => []
  | b :: r => if b = c then c :: c :: doubled c r else b :: doubled c r

theorem doubled_none (c : UInt8) : ∀ l : Bs, l.count c = 0 → doubled c l = l := by
  intro l
  induction l with
  | nil => intro _; rfl
  | cons b r ih =>
    intro h
    rw [List.count_cons] at h
    by_cases hb : b = c
    · subst hb; simp at h
    · rw [doubled, if_neg hb, ih (by omega)]

theorem doubled_length (c : UInt8) : ∀ l : Bs, (doubled c l).length = l.length + l.count c := by
  intro l
  induction l with
  | nil => rfl
  | cons b r ih =>
    rw [List.count_cons, doubled]
    by_cases hb : b = c
    · subst hb; simp [ih]; omega
    · rw [if_neg hb, if_neg (by simpa using hb)]; simp [ih]; omega

theorem doubled_append (c : UInt8) : ∀ a b : Bs, doubled c (a ++ b) = doubled c a ++ doubled c b := by
  intro a b
  induction a with
  | nil => rfl
  | cons x r ih =>
    rw [List.cons_append, doubled, doubled, ih]
    by_cases hx : x = c
    · rw [if_pos hx, if_pos hx]; rfl
    · rw [if_neg hx, if_neg hx]; rfl

/-- Where the first one stands. -/
theorem index_first (c : UInt8) : ∀ l : Bs, 0 < l.count c → ∃ k : Nat, indexByte l c = k ∧ k < l.length ∧ doubled c l = l.take k ++ ([c, c] ++ doubled c (l.drop (k + 1))) ∧ l.count c = (l.drop (k + 1)).count c + 1 := by
  intro l
  induction l with
  | nil => intro h; simp at h
  | cons b r ih =>
    intro h
    by_cases hb : b = c
    · subst hb
      refine ⟨0, by simp [indexByte], by simp, by simp [doubled], by simp⟩
    · rw [List.count_cons_of_ne (by simpa using hb)] at h
      obtain ⟨k, h1, h2, h3, h4⟩ := ih h
      refine ⟨k + 1, ?_, by simpa using h2, ?_, ?_⟩
      · have hb' : (b == c) = false := by simpa using hb
        simp only [indexByte]
        simp [hb, h1]
      · rw [doubled, if_neg hb, h3]; simp
      · rw [List.count_cons_of_ne (by simpa using hb), h4]; simp

theorem replaceK_doubled (c : UInt8) : ∀ (k : Nat) (l : Bs), l.count c = k → Lib.replaceK [c] [c, c] k l = doubled c l := by
  intro k
  induction k with
  | zero => intro l h; rw [doubled_none c l h]; rfl
  | succ k ih =>
    intro l h
    obtain ⟨i, h1, h2, h3, h4⟩ := index_first c l (by omega)
    rw [Lib.replaceK_hit _ _ _ _ i (by rw [Lib.index_one]; exact h1), h3, ih _ (by simpa using (by omega : (l.drop (i + 1)).count c = k))]
    simp

theorem replaceAll_doubled (c : UInt8) (l : Bs) : Lib.replaceAll l [c] [c, c] = doubled c l := by
  unfold Lib.replaceAll Lib.replace
  rw [if_neg (by simp), Lib.replaceNum, if_pos (.inl (by decide)), Lib.count_one]
  exact replaceK_doubled c _ l rfl

theorem countB_one (s : ByteArray) (c : UInt8) : Lib.countB s ⟨#[c]⟩ ≤ s.size := by
  have h : Lib.countB s ⟨#[c]⟩ = (bytes s).count c := by
    first
      | exact Lib.count_one c _
      | (unfold Lib.countB; exact Lib.count_one c _)
  rw [h, ← bytes_len s]; exact List.count_le_length

theorem str_cat (a b : Bs) : (⟨a.toArray⟩ : ByteArray) ++ ⟨b.toArray⟩ = ⟨(a ++ b).toArray⟩ := by
  apply ByteArray.ext
  rw [ByteArray.data_append]
  simp
theorem str_size (a : Bs) : (⟨a.toArray⟩ : ByteArray).size = a.length := by simp [ByteArray.size]


def quoted (c : UInt8) (l : Bs) : Bs := c :: (doubled c l ++ [c])
end Go.Proofs.YtgopajddloeclaaDoor

namespace Go.Proofs.YtgopajddloeclaaDoor
open Go.RowKit Go.Lib Go.WideShapes

set_option maxRecDepth 100000 in
set_option maxHeartbeats 2000000 in
/-- A text between two marks, each mark in it twice. -/
theorem quote_any (c : UInt8) (s : ByteArray) (m : Int) (w : World) (hs : s.size ≤ 100000) (hm : w.cell? ⟨2, 0, none⟩ = some (.int .i64 m)) :
    Calls Tryd.prog 37 #[.string s, .string ⟨#[c]⟩] w fun e w' => e = .returned (.string ⟨(c :: (doubled c (bytes s) ++ [c])).toArray⟩) ∧ Below w.heap.size w w' := by
  have hR := Tryd.strings_ReplaceAll s ⟨#[c]⟩ ⟨#[c, c]⟩ m w (by omega) hm (by show 1 ≤ 1; omega) (by have := countB_one s c; show s.size + Lib.countB s ⟨#[c]⟩ * 2 ≤ _; omega)
  rw [show Lib.replaceAll s.data.toList (⟨#[c]⟩ : ByteArray).data.toList (⟨#[c, c]⟩ : ByteArray).data.toList = doubled c (bytes s) from replaceAll_doubled c _] at hR
  have hl : (doubled c (bytes s)).length ≤ 200000 := by
    rw [doubled_length, bytes_len]
    have : (bytes s).count c ≤ (bytes s).length := List.count_le_length
    rw [bytes_len] at this; omega
  have HR := Lib.hid hR
  generalize doubled c (bytes s) = D at HR hl ⊢
  clear hR hm
  obtain ⟨X, hX⟩ : ∃ X : ByteArray, X = ⟨D.toArray⟩ := ⟨_, rfl⟩
  have hXs : X.size ≤ 200000 := by rw [hX, str_size]; exact hl
  have HX := Lib.hid (show (⟨#[c]⟩ : ByteArray) ++ X ++ ⟨#[c]⟩ = ⟨(c :: (D ++ [c])).toArray⟩ by rw [hX, show (⟨#[c]⟩ : ByteArray) = ⟨[c].toArray⟩ from rfl, str_cat, str_cat]; rfl)
  rw [← hX] at HR
  clear hX hl
  go_enter Tryd.func37, Tryd.ntmps37
  go_wp2_with fail
  refine HR.out.mono ?_; rintro e w1 ⟨rfl, hb1⟩
  have HB1 := Lib.hid hb1
  clear hb1 HR
  go_wp2_with fail
  go_ret
  exact ⟨by rw [← HX.out]; rfl, HB1.out⟩
end Go.Proofs.YtgopajddloeclaaDoor

namespace Go.Proofs.YtgopajddloeclaaDoor
open Go.RowKit Go.Lib Go.WideShapes

/-- Is it a name? -/
def goodB (l : Bs) : Bool := decide (l.length ≤ 63) && (partB (Lib.cut l [46]).1 && (!(Lib.cut l [46]).2.2 || partB (Lib.cut l [46]).2.1))
def identB (l : Bs) : Bs := if partB l && !takenB l then l else quoted 34 l

theorem cut_length (l : Bs) : (Lib.cut l [46]).1.length ≤ l.length ∧ (Lib.cut l [46]).2.1.length ≤ l.length := by
  unfold Lib.cut
  split
  · exact ⟨by rw [List.length_take]; omega, by rw [List.length_drop]; omega⟩
  · exact ⟨Nat.le_refl _, Nat.zero_le _⟩

set_option maxRecDepth 100000 in
set_option maxHeartbeats 2000000 in
theorem good_any (s : ByteArray) (m : Int) (w : World) (hs : s.size ≤ 100000) (hm : w.cell? ⟨2, 0, none⟩ = some (.int .i64 m)) :
    Calls Tryd.prog 20 #[.string s] w fun e w' => e = .returned (.bool (goodB (bytes s))) ∧ ∃ n, w' = w.drewN n := by
  have hg : goodB (bytes s) = (decide (s.size ≤ 63) && (partB (Lib.cut (bytes s) [46]).1 && (!(Lib.cut (bytes s) [46]).2.2 || partB (Lib.cut (bytes s) [46]).2.1))) := by unfold goodB; rw [bytes_len]
  rw [hg]
  have hcl := cut_length (bytes s)
  rw [bytes_len] at hcl
  have HC := Lib.hid (Tryd.strings_Cut s ⟨#[46]⟩ m w (by omega) hm)
  rw [show (⟨#[46]⟩ : ByteArray).data.toList = [46] from rfl, show s.data.toList = bytes s from rfl] at HC
  generalize Lib.cut (bytes s) [46] = q at hcl HC ⊢
  obtain ⟨x, y, two⟩ := q
  simp only at hcl HC ⊢
  have HX := Lib.hid (fun W => part_any ⟨x.toArray⟩ W (by rw [str_size]; omega))
  have HY := Lib.hid (fun W => part_any ⟨y.toArray⟩ W (by rw [str_size]; omega))
  rw [show bytes ⟨x.toArray⟩ = x by simp [bytes]] at HX
  rw [show bytes ⟨y.toArray⟩ = y by simp [bytes]] at HY
  generalize partB x = px at HX ⊢
  generalize partB y = py at HY ⊢
  clear hg hcl hm
  by_cases hl : s.size ≤ 63
  · have hl' : (s.size : Int) ≤ 63 := by omega
    rw [decide_eq_true hl, Bool.true_and]
    go_enter Tryd.func20, Tryd.ntmps20
    go_wp2_with fail
    refine HC.out.mono ?_; rintro e w1 ⟨rfl, n, rfl⟩
    go_wp2_with fail
    refine (HX.out _).mono ?_; rintro e w2 ⟨rfl, rfl⟩
    cases px with
    | false =>
      go_wp2_with fail
      go_ret
      exact ⟨rfl, n, rfl⟩
    | true =>
      cases two with
      | false =>
        go_wp2_with fail
        go_ret
        exact ⟨rfl, n, rfl⟩
      | true =>
        go_wp2_with fail
        refine (HY.out _).mono ?_; rintro e w3 ⟨rfl, rfl⟩
        go_wp2_with fail
        go_ret
        exact ⟨rfl, n, rfl⟩
  · have hl' : (63 : Int) < s.size := by omega
    rw [decide_eq_false hl, Bool.false_and]
    go_enter Tryd.func20, Tryd.ntmps20
    go_wp2_with fail
    go_ret
    exact ⟨rfl, 0, rfl⟩

set_option maxRecDepth 100000 in
set_option maxHeartbeats 2000000 in
theorem ident_any (s : ByteArray) (m : Int) (w : World) (hs : s.size ≤ 100000) (hm : w.cell? ⟨2, 0, none⟩ = some (.int .i64 m)) (hT : TakenAt w) :
    Calls Tryd.prog 21 #[.string s] w fun e w' => e = .returned (.string ⟨(identB (bytes s)).toArray⟩) ∧ Below w.heap.size w w' := by
  have HP := Lib.hid (part_any s w (by omega))
  have HK := Lib.hid (taken_any s w hT)
  have HQ := Lib.hid (quote_any 34 s m w hs hm)
  have hi : identB (bytes s) = if partB (bytes s) && !takenB (bytes s) then bytes s else quoted 34 (bytes s) := rfl
  rw [hi]
  have HE := Lib.hid (show (⟨(bytes s).toArray⟩ : ByteArray) = s by simp [bytes])
  generalize partB (bytes s) = p at HP ⊢
  generalize takenB (bytes s) = t at HK ⊢
  clear hi hT hm
  cases p with
  | false =>
    go_enter Tryd.func21, Tryd.ntmps21
    go_wp2_with fail
    refine HP.out.mono ?_; rintro e w1 ⟨rfl, rfl⟩
    go_wp2_with fail
    refine HQ.out.mono ?_; rintro e w1 ⟨rfl, hb⟩
    have HB := Lib.hid hb
    clear hb
    go_wp2_with fail
    go_ret
    exact ⟨rfl, HB.out⟩
  | true =>
    cases t with
    | true =>
      go_enter Tryd.func21, Tryd.ntmps21
      go_wp2_with fail
      refine HP.out.mono ?_; rintro e w1 ⟨rfl, rfl⟩
      go_wp2_with fail
      refine HK.out.mono ?_; rintro e w1 ⟨rfl, rfl⟩
      go_wp2_with fail
      refine HQ.out.mono ?_; rintro e w1 ⟨rfl, hb⟩
      have HB := Lib.hid hb
      clear hb
      go_wp2_with fail
      go_ret
      exact ⟨rfl, HB.out⟩
    | false =>
      go_enter Tryd.func21, Tryd.ntmps21
      go_wp2_with fail
      refine HP.out.mono ?_; rintro e w1 ⟨rfl, rfl⟩
      go_wp2_with fail
      refine HK.out.mono ?_; rintro e w1 ⟨rfl, rfl⟩
      go_wp2_with fail
      go_ret
      exact ⟨rfl, Below.refl _ _⟩

set_option maxRecDepth 100000 in
set_option maxHeartbeats 2000000 in
theorem literal_any (s : ByteArray) (m : Int) (w : World) (hs : s.size ≤ 100000) (hm : w.cell? ⟨2, 0, none⟩ = some (.int .i64 m)) :
    Calls Tryd.prog 22 #[.string s] w fun e w' => e = .returned (.string ⟨(quoted 39 (bytes s)).toArray⟩) ∧ Below w.heap.size w w' := by
  have HQ := Lib.hid (quote_any 39 s m w hs hm)
  clear hm
  go_enter Tryd.func22, Tryd.ntmps22
  go_wp2_with fail
  refine HQ.out.mono ?_; rintro e w1 ⟨rfl, hb⟩
  have HB := Lib.hid hb
  clear hb
  go_wp2_with fail
  go_ret
  exact ⟨rfl, HB.out⟩
end Go.Proofs.YtgopajddloeclaaDoor

namespace Go.Proofs.YtgopajddloeclaaDoor
open Go.RowKit Go.Lib Go.WideShapes

theorem below_drew {w w' : World} (h : ∃ n, w' = w.drewN n) : Below w.heap.size w w' := by
  obtain ⟨n, rfl⟩ := h
  exact below_drewN (Below.refl _ _) n

theorem indexByte_none (c : UInt8) : ∀ l : Bs, c ∉ l → indexByte l c = -1 := by
  intro l
  induction l with
  | nil => intro _; rfl
  | cons b r ih =>
    intro h
    simp only [List.mem_cons, not_or] at h
    have hb : (b == c) = false := by simpa using fun e => h.1 (by rw [e])
    rw [indexByte, hb, ih h.2]; rfl

theorem indexByte_at (c : UInt8) (b : Bs) : ∀ a : Bs, c ∉ a → indexByte (a ++ c :: b) c = a.length := by
  intro a
  induction a with
  | nil => intro _; rw [List.nil_append, indexByte]; simp
  | cons x r ih =>
    intro h
    simp only [List.mem_cons, not_or] at h
    have hb : (x == c) = false := by simpa using fun e => h.1 (by rw [e])
    rw [List.cons_append, indexByte, hb, ih h.2]
    rw [if_neg (by simp), if_neg (by simp; try omega)]; simp

theorem cut_none {l : Bs} (h : (46 : UInt8) ∉ l) : Lib.cut l [46] = (l, [], false) := by
  unfold Lib.cut
  rw [Lib.index_one, indexByte_none 46 l h]; rfl
theorem cut_at {a : Bs} (h : (46 : UInt8) ∉ a) (b : Bs) : Lib.cut (a ++ 46 :: b) [46] = (a, b, true) := by
  unfold Lib.cut
  rw [Lib.index_one, indexByte_at 46 b a h, if_pos (by omega)]
  simp

theorem goodB_one {l : Bs} (h : (46 : UInt8) ∉ l) : goodB l = (decide (l.length ≤ 63) && partB l) := by
  unfold goodB
  rw [cut_none h]; simp
theorem goodB_two {a : Bs} (h : (46 : UInt8) ∉ a) (b : Bs) : goodB (a ++ 46 :: b) = (decide (a.length + b.length ≤ 62) && (partB a && partB b)) := by
  unfold goodB
  rw [cut_at h]
  have : (a ++ 46 :: b).length = a.length + b.length + 1 := by simp; omega
  rw [this]
  congr 1
  exact decide_eq_decide.2 (by omega)

theorem partB_no (l : Bs) (c : UInt8) (hc : c ∈ l) (h1 : lowB c = false) (h2 : digB c = false) : partB l = false := by
  obtain ⟨i, hi, rfl⟩ := List.mem_iff_getElem.1 hc
  exact (partB_take l i hi).2 h1 h2
theorem partB_dot (l : Bs) (h : (46 : UInt8) ∈ l) : partB l = false := partB_no l 46 h (by decide) (by decide)
theorem partB_mem {l : Bs} (h : partB l = true) (c : UInt8) (hc : c ∈ l) : lowB c = true ∨ digB c = true := by
  cases h1 : lowB c with
  | true => exact .inl rfl
  | false =>
    cases h2 : digB c with
    | true => exact .inr rfl
    | false => rw [partB_no l c hc h1 h2] at h; cases h
/-- What is no part, with a byte of none in it. -/
theorem partB_nodot {l : Bs} (h : partB l = true) : (46 : UInt8) ∉ l := fun hm => by rw [partB_dot l hm] at h; cases h

theorem partB_as (k : Nat) : partB (List.replicate k 97) = decide (1 ≤ k) := by
  cases k with
  | zero => rfl
  | succ k =>
    rw [List.replicate_succ, partB]
    have : partR (List.replicate k 97) = true := List.all_eq_true.2 fun x hx => by rw [List.eq_of_mem_replicate hx]; rfl
    rw [this]; simp; rfl
theorem dot_as (k : Nat) : (46 : UInt8) ∉ List.replicate k (97 : UInt8) := fun h => by have := List.eq_of_mem_replicate h; cases this

theorem takenB_as (k : Nat) : takenB (List.replicate k 97) = false := by
  rw [← Bool.not_eq_true]
  intro h
  obtain ⟨x, hx, he⟩ := List.any_eq_true.1 h
  have he : List.replicate k 97 = x := by simpa using he
  have hall : (takenL.all fun x => x.any (· != 97)) = true := by decide
  obtain ⟨c, hc, hn⟩ := List.any_eq_true.1 (List.all_eq_true.1 hall x hx)
  rw [← he] at hc
  rw [List.eq_of_mem_replicate hc] at hn
  cases hn

theorem ident_as (k : Nat) (h : 1 ≤ k) : identB (List.replicate k 97) = List.replicate k 97 := by
  unfold identB
  rw [partB_as, takenB_as, decide_eq_true h]; rfl
end Go.Proofs.YtgopajddloeclaaDoor
