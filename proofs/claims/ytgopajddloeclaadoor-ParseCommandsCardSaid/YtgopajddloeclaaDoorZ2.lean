/- Contracts and mathematics: Cur. -/
import Derived.Test.YtgopajddloeclaaDoorZ1
namespace Go.Proofs.YtgopajddloeclaaDoor
open Go.RowKit Go.Lib Go.WideShapes

/-- The cursor in block p: at i in the text s. -/
def Cur (w : World) (p : Nat) (s : ByteArray) (i : Nat) : Prop := w.heap[p]? = some (.cells #[.string s, .int .i64 i] 99 (0, 0))

section
variable {w w' : World} {p i : Nat} {s : ByteArray}

theorem Cur.cell (h : Cur w p s i) : w.cell? ⟨p, 0, none⟩ = some (.string s) ∧ w.cell? ⟨p, 1, none⟩ = some (.int .i64 i) ∧ w.frozen? ⟨p, 1, none⟩ = false := by
  refine ⟨?_, ?_, ?_⟩
  · simp [World.cell?, show w.heap[p]? = _ from h]
  · simp [World.cell?, show w.heap[p]? = _ from h]
  · simp [World.frozen?, show w.heap[p]? = _ from h]

theorem Cur.lt (h : Cur w p s i) : p < w.heap.size := (Array.getElem?_eq_some_iff.1 h).1

theorem Cur.drewN (h : Cur w p s i) (n : Nat) : Cur (w.drewN n) p s i := h

theorem Cur.below (h : Cur w p s i) (hb : Below w.heap.size w w') : Cur w' p s i := (hb.block p h.lt).trans h

theorem Cur.set (h : Cur w p s i) (j : Nat) : Cur (w.setCell ⟨p, 1, none⟩ (.int .i64 j)) p s j ∧ w.grownBy (w.setCell ⟨p, 1, none⟩ (.int .i64 j)) (some p) := by
  refine ⟨?_, ⟨rfl, rfl, rfl, by simp [World.setCell], fun k hk hne => Below.heap_setCell _ _ _ _ (fun e => hne (by rw [e]))⟩⟩
  unfold Cur
  rw [setCell_eq_setRow w p 1 _ _ (0, 0) _ h]
  exact setRow_heap w p _ _ _ _ h
end

theorem more_yes (p i : Nat) (s : ByteArray) (w : World) (h : Cur w p s i) (hi : i < s.size) :
    Calls Tryd.prog 58 #[.pointer (some ⟨p, 0, none⟩)] w fun e w' => e = .returned (.bool true) ∧ ∃ n, w' = w.drewN n := by
  obtain ⟨c0, c1, _⟩ := h.cell
  have hd : decide ((i : Int) < s.size) = true := decide_eq_true (by omega)
  have hd2 : decide (i < s.size) = true := decide_eq_true hi
  clear h
  go_enter Tryd.func58, Tryd.ntmps58
  go_wp2_with fail
  go_quiet (fail)
  go_wp2_with fail
  go_ret
  exact ⟨rfl, nq, rfl⟩

theorem more_no (p i : Nat) (s : ByteArray) (w : World) (h : Cur w p s i) (hi : s.size ≤ i) :
    Calls Tryd.prog 58 #[.pointer (some ⟨p, 0, none⟩)] w fun e w' => e = .returned (.bool false) ∧ ∃ n, w' = w.drewN n := by
  obtain ⟨c0, c1, _⟩ := h.cell
  have hd : decide ((i : Int) < s.size) = false := decide_eq_false (by omega)
  have hd2 : decide (i < s.size) = false := decide_eq_false (by omega)
  clear h
  go_enter Tryd.func58, Tryd.ntmps58
  go_wp2_with fail
  go_quiet (fail)
  go_wp2_with fail
  go_ret
  exact ⟨rfl, nq, rfl⟩

theorem peek_any (p i k : Nat) (s : ByteArray) (w : World) (h : Cur w p s i) (hs : s.size ≤ 2000) (hk : i + k ≤ 100000) :
    Calls Tryd.prog 82 #[.pointer (some ⟨p, 0, none⟩), .int .i64 k] w fun e w' => e = .returned (.int .u8 (pb s (i + k))) ∧ ∃ n, w' = w.drewN n := by
  obtain ⟨c0, c1, _⟩ := h.cell
  have hk' : (i : Int) + k ≤ 100000 := by omega
  by_cases hi : i + k < s.size
  · have hd : decide ((s.size : Int) ≤ (i : Int) + k) = false := decide_eq_false (by omega)
    have HP := Lib.hid (pb_at s (i + k) hi)
    have q1 : (0 : Int) ≤ (i : Int) + k := by omega
    have q2 : ((i : Int) + k).toNat = i + k := by omega
    have q3 : (i : Int) + k < s.size := by omega
    have q4 : IntKind.i64.wrap ((i : Int) + k) = (i : Int) + k := by rw [IntKind.wrap_i64]; omega
    clear h
    go_enter Tryd.func82, Tryd.ntmps82
    go_wp2_with fail
    go_quiet (fail)
    go_wp2_with fail
    go_quiet (fail)
    go_wp2_with fail
    go_ret
    rw [← HP.out]
    exact ⟨rfl, _, World.drewN_drewN _ _ _⟩
  · have hd : decide ((s.size : Int) ≤ (i : Int) + k) = true := decide_eq_true (by omega)
    have HP := Lib.hid (pb_out s (i + k) (by omega))
    clear h
    go_enter Tryd.func82, Tryd.ntmps82
    go_wp2_with fail
    go_quiet (fail)
    go_wp2_with fail
    go_ret
    rw [HP.out]
    exact ⟨rfl, _, rfl⟩

theorem demand_true (w : World) :
    Calls Tryd.prog 55 #[.bool true] w fun e w' => e = .returned (.tuple #[]) ∧ w = w' := by
  go_enter Tryd.func55, Tryd.ntmps55
  go_wp2
  go_end0
  exact ⟨rfl, rfl⟩

theorem demand_false (w : World) :
    Calls Tryd.prog 55 #[.bool false] w fun e w' => e = .panicked [{ v := .iface 28 (.int .i64 2), recovered := false }] ∧ w = w' := by
  go_enter Tryd.func55, Tryd.ntmps55
  go_wp2
  exact ⟨rfl, rfl, rfl⟩

def dgN (n : Nat) : Bool := dg (UInt8.ofNat n)
def bwN (n : Nat) : Bool := bw (UInt8.ofNat n)

theorem dgN_iff (n : Nat) (hn : n < 256) : dgN n = true ↔ 48 ≤ n ∧ n ≤ 57 := by
  unfold dgN dg
  simp [UInt8.le_iff_toNat_le, UInt8.toNat_ofNat, Nat.mod_eq_of_lt hn]

theorem bwN_iff (n : Nat) (hn : n < 256) : bwN n = true ↔ (97 ≤ n ∧ n ≤ 122) ∨ (65 ≤ n ∧ n ≤ 90) ∨ n = 95 ∨ 128 ≤ n := by
  unfold bwN bw
  simp [UInt8.le_iff_toNat_le, UInt8.toNat_ofNat, Nat.mod_eq_of_lt hn, ← UInt8.toNat_inj]
  omega

theorem digit_yes (n : Nat) (w : World) (hn : n < 256) (h : dgN n = true) :
    Calls Tryd.prog 86 #[.int .u8 n] w fun e w' => e = .returned (.bool true) ∧ w = w' := by
  obtain ⟨h1, h2⟩ := (dgN_iff n hn).1 h
  have h1' : (48 : Int) ≤ n := by omega
  have h2' : (n : Int) ≤ 57 := by omega
  clear h
  go_enter Tryd.func86, Tryd.ntmps86
  go_wp2
  go_ret
  exact ⟨by first | rfl | simp [h1, h2], rfl⟩

theorem digit_no (n : Nat) (w : World) (hn : n < 256) (h : dgN n = false) :
    Calls Tryd.prog 86 #[.int .u8 n] w fun e w' => e = .returned (.bool false) ∧ w = w' := by
  have hc : n < 48 ∨ (48 ≤ n ∧ 57 < n) := by
    have := mt (dgN_iff n hn).2 (by rw [h]; simp)
    omega
  clear h
  rcases hc with h1 | ⟨h1, h2⟩
  · have h1' : (n : Int) < 48 := by omega
    go_enter Tryd.func86, Tryd.ntmps86
    go_wp2
    go_ret
    exact ⟨by simp, rfl⟩
  · have h1' : (48 : Int) ≤ n := by omega
    have h2' : (57 : Int) < n := by omega
    go_enter Tryd.func86, Tryd.ntmps86
    go_wp2
    go_ret
    exact ⟨by first | rfl | (simp; omega), rfl⟩

theorem digit_any (n : Nat) (w : World) (hn : n < 256) :
    Calls Tryd.prog 86 #[.int .u8 n] w fun e w' => e = .returned (.bool (dgN n)) ∧ w = w' := by
  cases h : dgN n with
  | true => exact digit_yes n w hn h
  | false => exact digit_no n w hn h

set_option maxRecDepth 100000 in
theorem begins_any (n : Nat) (w : World) (hn : n < 256) :
    Calls Tryd.prog 84 #[.int .u8 n] w fun e w' => e = .returned (.bool (bwN n)) ∧ w = w' := by
  have HV := Lib.hid (bwN_iff n hn)
  rcases (by omega : n < 65 ∨ (65 ≤ n ∧ n ≤ 90) ∨ (90 < n ∧ n < 97 ∧ n ≠ 95) ∨ n = 95 ∨ (97 ≤ n ∧ n ≤ 122) ∨ (122 < n ∧ n < 128) ∨ 128 ≤ n) with h | ⟨h, h2⟩ | ⟨h, h2, h3⟩ | h | ⟨h, h2⟩ | ⟨h, h2⟩ | h
  · have HB := Lib.hid (show bwN n = false by rw [← Bool.not_eq_true, HV.out]; omega)
    have a1 : (n : Int) < 65 := by omega
    have a3 : (n : Int) < 97 := by omega
    have a2 : ((n : Int) == 95) = false := by simp; omega
    go_enter Tryd.func84, Tryd.ntmps84
    go_wp2
    go_ret
    exact ⟨by rw [HB.out]; first | rfl | (simp; done) | (simp; omega), rfl⟩
  · have HB := Lib.hid (show bwN n = true by rw [HV.out]; omega)
    have a1 : (65 : Int) ≤ n := by omega
    have a2 : (n : Int) ≤ 90 := by omega
    have a3 : (n : Int) < 97 := by omega
    go_enter Tryd.func84, Tryd.ntmps84
    go_wp2
    go_ret
    exact ⟨by rw [HB.out]; first | rfl | (simp; done) | (simp; omega), rfl⟩
  · have HB := Lib.hid (show bwN n = false by rw [← Bool.not_eq_true, HV.out]; omega)
    have a1 : (90 : Int) < n := by omega
    have a4 : (65 : Int) ≤ n := by omega
    have a5 : (n : Int) < 128 := by omega
    have a2 : ((n : Int) == 95) = false := by simp; omega
    have a3 : (n : Int) < 97 := by omega
    clear h3
    go_enter Tryd.func84, Tryd.ntmps84
    go_wp2
    go_ret
    exact ⟨by rw [HB.out]; first | rfl | (simp; done) | (simp; omega), rfl⟩
  · subst h
    have HB := Lib.hid (show bwN 95 = true by rw [HV.out]; omega)
    go_enter Tryd.func84, Tryd.ntmps84
    go_wp2
    go_ret
    exact ⟨by rw [HB.out]; first | rfl | (simp; done) | (simp; omega), rfl⟩
  · have HB := Lib.hid (show bwN n = true by rw [HV.out]; omega)
    have a1 : (97 : Int) ≤ n := by omega
    have a2 : (n : Int) ≤ 122 := by omega
    go_enter Tryd.func84, Tryd.ntmps84
    go_wp2
    go_ret
    exact ⟨by rw [HB.out]; first | rfl | (simp; done) | (simp; omega), rfl⟩
  · have HB := Lib.hid (show bwN n = false by rw [← Bool.not_eq_true, HV.out]; omega)
    have a1 : (122 : Int) < n := by omega
    have a4 : (97 : Int) ≤ n := by omega
    have a5 : (90 : Int) < n := by omega
    have a6 : (65 : Int) ≤ n := by omega
    have a2 : ((n : Int) == 95) = false := by simp; omega
    have a3 : (n : Int) < 128 := by omega
    go_enter Tryd.func84, Tryd.ntmps84
    go_wp2
    go_ret
    exact ⟨by rw [HB.out]; first | rfl | (simp; done) | (simp; omega), rfl⟩
  · have HB := Lib.hid (show bwN n = true by rw [HV.out]; omega)
    have a1 : (128 : Int) ≤ n := by omega
    have a4 : (97 : Int) ≤ n := by omega
    have a5 : (90 : Int) < n := by omega
    have a6 : (65 : Int) ≤ n := by omega
    have a7 : (122 : Int) < n := by omega
    have a2 : ((n : Int) == 95) = false := by simp; omega
    go_enter Tryd.func84, Tryd.ntmps84
    go_wp2
    go_ret
    exact ⟨by rw [HB.out]; first | rfl | (simp; done) | (simp; omega), rfl⟩
end Go.Proofs.YtgopajddloeclaaDoor
