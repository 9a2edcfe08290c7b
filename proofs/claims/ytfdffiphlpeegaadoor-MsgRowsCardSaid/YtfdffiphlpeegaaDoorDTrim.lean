/- strings.Trim of bytes 0: nothing is left just if there is nothing else. -/
import Derived.Test.YtfdffiphlpeegaaDoorDT
namespace Go.Proofs.YtfdffiphlpeegaaDoor
open Go.RowKit Go.Lib Go.WideShapes

/-- What a trimming of bytes 0 leaves of l. -/
def TrimOut (l : Bs) (w : World) (e : Ending) (w' : World) : Prop := ∃ r : ByteArray, e = .returned (.string r) ∧ w' = w ∧ r.size ≤ l.length ∧ ((r.size = 0 ∧ ∀ b ∈ l, b = 0) ∨ ((∃ b ∈ bytes r, b ≠ 0) ∧ ∃ b ∈ l, b ≠ 0))
def strLen : Value → Nat
  | .string s => s.size
  | _ => 0
theorem bytes_cut (X : ByteArray) (h : 0 < X.size) : bytes X = bytes (X.extract 0 (X.size - 1)) ++ [X[X.size - 1]'(by omega)] := by
  have hl : (bytes X).length = X.size := blen X
  have e1 : bytes (X.extract 0 (X.size - 1)) = (bytes X).take (X.size - 1) := by
    have hx : X.data.toList.length = X.size := hl
    simp only [bytes, ByteArray.data_extract, Array.toList_extract, List.extract_eq_take_drop, List.drop_zero, Nat.sub_zero]
  rw [e1]
  have h2 : X.size - 1 < (bytes X).length := by omega
  have e2 := List.take_succ_eq_append_getElem h2
  rw [show X.size - 1 + 1 = (bytes X).length by omega, List.take_length] at e2
  exact e2
theorem bytes_behead (X : ByteArray) (h : 0 < X.size) : bytes X = X[0] :: bytes (X.extract 1 X.size) := by
  have hl : (bytes X).length = X.size := blen X
  have e1 : bytes (X.extract 1 X.size) = (bytes X).drop 1 := by
    simp [bytes, ByteArray.data_extract, List.take_of_length_le]
  rw [e1]
  have h2 : 0 < (bytes X).length := by omega
  have e2 := List.drop_eq_getElem_cons h2
  rw [List.drop_zero] at e2
  exact e2
theorem size_cut1 (X : ByteArray) (h : 0 < X.size) : (X.extract 0 (X.size - 1)).size = X.size - 1 := by
  have := congrArg List.length (bytes_cut X h)
  rw [List.length_append, blen, blen, List.length_singleton] at this
  omega
theorem size_behead (X : ByteArray) (h : 0 < X.size) : (X.extract 1 X.size).size = X.size - 1 := by
  have := congrArg List.length (bytes_behead X h)
  rw [List.length_cons, blen, blen] at this
  omega

set_option maxRecDepth 100000 in
set_option maxHeartbeats 8000000 in
theorem trimR_any (s : ByteArray) (w : World) (hs : s.size ≤ 1000000) :
    Calls Tryd.prog 72 #[.string s, .int .u8 0] w (TrimOut (bytes s) w) := by
  go_enter Tryd.func72, Tryd.ntmps72
  go_wp2_with fail
  go_loopw [0, 0] (fun v _ wx => ∃ X : ByteArray, v = .string X ∧ X.size ≤ s.size ∧ (∃ Z : Bs, bytes s = bytes X ++ Z ∧ ∀ b ∈ Z, b = 0) ∧ wx = w) (fun v _ _ => strLen v)
  case atStart => exact ⟨s, rfl, Nat.le_refl _, ⟨[], by simp, by simp⟩, rfl⟩
  case round =>
    obtain ⟨X, rfl, hX, hZ, hwr⟩ := hrel
    subst hwr
    have HZ := Lib.hid hZ
    clear hZ
    by_cases h0 : 0 < X.size
    · have h0' : (0 : Int) < X.size := by omega
      have h1' : (0 : Int) ≤ (X.size : Int) - 1 := by omega
      have hk : ((X.size : Int) - 1).toNat = X.size - 1 := by omega
      have HC := Lib.hid (bytes_cut X h0)
      have HSZ := Lib.hid (size_cut1 X h0)
      have hlt : X.size - 1 < X.size := by omega
      by_cases hb : X[X.size - 1] = 0
      · have hb0 : ((X[X.size - 1].toNat : Int) == 0) = true := by rw [hb]; rfl
        go_wp2_with fail
        go_roundw
        case measure => show (X.extract 0 (X.size - 1)).size < X.size; rw [HSZ.out]; omega
        case rel =>
          obtain ⟨Z, hz1, hz2⟩ := HZ.out
          refine ⟨_, rfl, by rw [HSZ.out]; omega, ⟨[0] ++ Z, ?_, ?_⟩, by trivial⟩
          · rw [hz1, HC.out, hb, List.append_assoc]
          · intro b hbm
            rcases List.mem_append.1 hbm with h | h
            · exact List.mem_singleton.1 h
            · exact hz2 b h
      · have hb0 : ((X[X.size - 1].toNat : Int) == 0) = false := by
          rw [beq_eq_false_iff_ne]; intro e
          exact hb (UInt8.toNat_inj.mp (by have : X[X.size - 1].toNat = 0 := by omega
                                           exact this))
        have HB := Lib.hid hb
        clear hb
        go_wp2_with fail
        go_ret
        obtain ⟨Z, hz1, _⟩ := HZ.out
        have hm : X[X.size - 1] ∈ bytes X := by rw [HC.out]; simp
        exact ⟨X, rfl, rfl, by rw [blen]; exact hX, .inr ⟨⟨_, hm, HB.out⟩, ⟨_, by rw [hz1]; exact List.mem_append_left _ hm, HB.out⟩⟩⟩
    · have hz : X.size = 0 := by omega
      have HZ0 := Lib.hid hz
      have h0' : ¬ (0 : Int) < X.size := by omega
      clear hz
      go_wp2_with fail
      go_ret
      obtain ⟨Z, hz1, hz2⟩ := HZ.out
      have he : bytes X = [] := List.length_eq_zero_iff.1 (by rw [blen]; exact HZ0.out)
      rw [he, List.nil_append] at hz1
      exact ⟨X, rfl, rfl, by rw [blen]; exact hX, .inl ⟨HZ0.out, by rw [hz1]; exact hz2⟩⟩

set_option maxRecDepth 100000 in
set_option maxHeartbeats 8000000 in
theorem trimL_any (s : ByteArray) (w : World) :
    Calls Tryd.prog 71 #[.string s, .int .u8 0] w (TrimOut (bytes s) w) := by
  go_enter Tryd.func71, Tryd.ntmps71
  go_wp2_with fail
  go_loopw [0, 0] (fun v _ wx => ∃ X : ByteArray, v = .string X ∧ X.size ≤ s.size ∧ (∃ Z : Bs, bytes s = Z ++ bytes X ∧ ∀ b ∈ Z, b = 0) ∧ wx = w) (fun v _ _ => strLen v)
  case atStart => exact ⟨s, rfl, Nat.le_refl _, ⟨[], by simp, by simp⟩, rfl⟩
  case round =>
    obtain ⟨X, rfl, hX, hZ, hwr⟩ := hrel
    subst hwr
    have HZ := Lib.hid hZ
    clear hZ
    by_cases h0 : 0 < X.size
    · have h0' : (0 : Int) < X.size := by omega
      have h1 : (1 : Int) ≤ X.size := by omega
      have HC := Lib.hid (bytes_behead X h0)
      have HSZ := Lib.hid (size_behead X h0)
      by_cases hb : X[0] = 0
      · have hb0 : ((X[0].toNat : Int) == 0) = true := by rw [hb]; rfl
        go_wp2_with fail
        go_roundw
        case measure => show (X.extract 1 X.size).size < X.size; rw [HSZ.out]; omega
        case rel =>
          obtain ⟨Z, hz1, hz2⟩ := HZ.out
          refine ⟨_, rfl, by rw [HSZ.out]; omega, ⟨Z ++ [0], ?_, ?_⟩, by trivial⟩
          · rw [hz1, HC.out, hb, List.append_assoc]; rfl
          · intro b hbm
            rcases List.mem_append.1 hbm with h | h
            · exact hz2 b h
            · exact List.mem_singleton.1 h
      · have hb0 : ((X[0].toNat : Int) == 0) = false := by
          rw [beq_eq_false_iff_ne]; intro e
          exact hb (UInt8.toNat_inj.mp (by have : X[0].toNat = 0 := by omega
                                           exact this))
        have HB := Lib.hid hb
        clear hb
        go_wp2_with fail
        go_ret
        obtain ⟨Z, hz1, _⟩ := HZ.out
        have hm : X[0] ∈ bytes X := by rw [HC.out]; exact List.mem_cons_self ..
        exact ⟨X, rfl, rfl, by rw [blen]; exact hX, .inr ⟨⟨_, hm, HB.out⟩, ⟨_, by rw [hz1]; exact List.mem_append_right _ hm, HB.out⟩⟩⟩
    · have hz : X.size = 0 := by omega
      have HZ0 := Lib.hid hz
      have h0' : ¬ (0 : Int) < X.size := by omega
      clear hz
      go_wp2_with fail
      go_ret
      obtain ⟨Z, hz1, hz2⟩ := HZ.out
      have he : bytes X = [] := List.length_eq_zero_iff.1 (by rw [blen]; exact HZ0.out)
      rw [he, List.append_nil] at hz1
      exact ⟨X, rfl, rfl, by rw [blen]; exact hX, .inl ⟨HZ0.out, by rw [hz1]; exact hz2⟩⟩

/-- What Trim leaves of l. -/
def TrimAll (l : Bs) (w : World) (e : Ending) (w' : World) : Prop := ∃ r : ByteArray, e = .returned (.string r) ∧ (r.size = 0 ↔ ∀ b ∈ l, b = 0) ∧ Below w.heap.size w w'
set_option maxRecDepth 100000 in
set_option maxHeartbeats 8000000 in
theorem trim_any (s : ByteArray) (w : World) (h0 : 0 < s.size) (hs : s.size ≤ 1000000) :
    Calls Tryd.prog 65 #[.string s, .string { data := #[0] }] w (TrimAll (bytes s) w) := by
  have hne : (s.toList == ([] : List UInt8)) = false := by
    rw [toList_eq, beq_eq_false_iff_ne]; intro e
    have h1 : (bytes s).length = s.size := blen s
    rw [show bytes s = [] from e] at h1
    have h2 : ([] : Bs).length = 0 := rfl
    omega
  go_enter Tryd.func65, Tryd.ntmps65
  go_upto_region 4 with (fail)
  go_region_with (first | (go_at_call 72; refine (trimR_any s _ hs).mono ?_; rintro e w5 ⟨r, rfl, rfl, hrl, hr⟩; have HRL := Lib.hid hrl; have HR := Lib.hid hr; clear hrl hr) | (go_at_call 71; refine (trimL_any r _).mono ?_; rintro e w6 ⟨q, rfl, rfl, hql, hq⟩; have HQL := Lib.hid hql; have HQ := Lib.hid hq; clear hql hq))
  all_goals
    go_wp2_with fail
    go_ret
    refine ⟨q, rfl, ?_, (Below.refl _ _).drew⟩
    rcases HR.out with ⟨e1, e2⟩ | ⟨⟨b, e1, e1'⟩, c, e2, e2'⟩
    · have hq0 : q.size = 0 := by have := HQL.out; rw [blen] at this; omega
      exact ⟨fun _ => e2, fun _ => hq0⟩
    · rcases HQ.out with ⟨g1, g2⟩ | ⟨⟨d, g1, g1'⟩, _⟩
      · exact absurd (g2 b e1) e1'
      · constructor
        · intro h
          have : bytes q = [] := List.length_eq_zero_iff.1 (by rw [blen]; exact h)
          rw [this] at g1; cases g1
        · intro h; exact absurd (h c e2) e2'
end Go.Proofs.YtfdffiphlpeegaaDoor
