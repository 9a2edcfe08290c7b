/- Contracts and mathematics: QRValue. -/
import Derived.Test.YtgopajddloeclaaDoorZ34
namespace Go.Proofs.YtgopajddloeclaaDoor
open Go.RowKit Go.Lib Go.WideShapes

def valV (L : List Tok) : Value := if (valueB L).2 then .tuple #[.string ⟨(valueB L).1.toArray⟩, .bool true] else .tuple #[.string { data := #[] }, .bool false]
theorem bsize9 (l : Bs) : (⟨l.toArray⟩ : ByteArray).size = l.length := by show Array.size _ = _; simp
theorem kind_bool (t : Tok) (k : UInt8) : (t.kind == k) = ((t.kind.toNat : Int) == (k.toNat : Nat)) := by
  rw [Bool.eq_iff_iff]; simp [← UInt8.toNat_inj]; omega
set_option maxRecDepth 100000 in
set_option maxHeartbeats 8000000 in
theorem rvalue_any (p : Nat) (L : List Tok) (w : World) (h : RestAt w p L) :
    Calls Tryd.prog 75 #[.pointer (some ⟨p, 0, none⟩)] w fun e w' => e = .returned (valV L) ∧ TurnedR w w' p := by
  obtain ⟨a, c, hC, hc, h9, hn, hT, hx⟩ := h
  have c0 := hC.cell
  have hp := hC.lt
  obtain ⟨V, hV⟩ : ∃ V, V = valV L := ⟨_, rfl⟩
  rw [← hV]
  have HDR := Lib.hid (show ∀ n, TurnedR w (w.drewN n) p from fun n => TurnedR.below (below_drewN (Below.refl _ _) n))
  cases L with
  | nil =>
    have HV := Lib.hid (show V = .tuple #[.string { data := #[] }, .bool false] from hV)
    clear hC hT hx hV
    go_enter Tryd.func75, Tryd.ntmps75
    go_wp2_with fail
    go_ret2
    exact ⟨by rw [HV.out]; rfl, by first | rfl | exact TurnedR.refl _ _⟩
  | cons t r =>
    obtain ⟨g, off, rfl, hg, hT'⟩ := hT.first
    obtain ⟨_, a0, a1, _⟩ := hT'.get (i := 0) rfl
    rw [Nat.zero_mul, Nat.add_zero] at a0 a1
    obtain ⟨XT, hXT⟩ : ∃ z : ByteArray, z = ⟨t.text.toArray⟩ := ⟨_, rfl⟩
    have hXl : XT.toList = t.text := by rw [hXT]; exact str_list _
    rw [← hXT] at a1
    obtain ⟨kk, hkk⟩ : ∃ z : Int, z = (t.kind.toNat : Nat) := ⟨_, rfl⟩
    rw [← hkk] at a0
    have hKB := fun k => kind_bool t k
    rw [← hkk] at hKB
    have HKB := Lib.hid hKB; have HXL := Lib.hid hXl; have HXT := Lib.hid hXT
    cases r with
    | nil =>
      have hcc : (1 : Int) ≤ c := by have : [t].length ≤ c := hc; simp at this; omega
      have hl1 : ([t].length : Nat) = 1 := rfl
      rw [hl1] at c0
      have HV0 := Lib.hid (show V = if ((kk == 115) || (kk == 119)) || (kk == 110) then .tuple #[.string ⟨t.text.toArray⟩, .bool true] else .tuple #[.string { data := #[] }, .bool false] from by
        rw [hV]
        show (if ((t.kind == 115 || t.kind == 119) || t.kind == 110) then _ else _) = _
        rw [HKB.out, HKB.out, HKB.out]; rfl)
      clear hC hT hT' hx hc hn hV hXT hkk hKB hXl
      cases b1 : (kk == 115) with
      | true =>
        have HV := Lib.hid (show V = .tuple #[.string XT, .bool true] from by rw [HV0.out, b1, HXT.out]; rfl)
        go_enter Tryd.func75, Tryd.ntmps75
        go_wp2_with fail
        go_ret2
        exact ⟨by rw [HV.out]; rfl, by first | rfl | exact TurnedR.refl _ _⟩
      | false =>
        cases b2 : (kk == 119) with
        | true =>
          have HV := Lib.hid (show V = .tuple #[.string XT, .bool true] from by rw [HV0.out, b1, b2, HXT.out]; rfl)
          go_enter Tryd.func75, Tryd.ntmps75
          go_wp2_with fail
          go_ret2
          exact ⟨by rw [HV.out]; rfl, by first | rfl | exact TurnedR.refl _ _⟩
        | false =>
          cases b3 : (kk == 110) with
          | true =>
            have HV := Lib.hid (show V = .tuple #[.string XT, .bool true] from by rw [HV0.out, b1, b2, b3, HXT.out]; rfl)
            go_enter Tryd.func75, Tryd.ntmps75
            go_wp2_with fail
            go_ret2
            exact ⟨by rw [HV.out]; rfl, by first | rfl | exact TurnedR.refl _ _⟩
          | false =>
            have HV := Lib.hid (show V = .tuple #[.string { data := #[] }, .bool false] from by rw [HV0.out, b1, b2, b3]; rfl)
            go_enter Tryd.func75, Tryd.ntmps75
            go_wp2_with fail
            go_ret2
            exact ⟨by rw [HV.out]; rfl, by first | rfl | exact TurnedR.refl _ _⟩
    | cons u r =>
      cases r with
      | nil =>
        obtain ⟨_, e0, e1, _⟩ := hT'.get (i := 1) rfl
        obtain ⟨XU, hXU⟩ : ∃ z : ByteArray, z = ⟨u.text.toArray⟩ := ⟨_, rfl⟩
        rw [← hXU] at e1
        obtain ⟨ku, hku⟩ : ∃ z : Int, z = (u.kind.toNat : Nat) := ⟨_, rfl⟩
        rw [← hku] at e0
        rw [Nat.one_mul] at e0 e1
        have e1' : w.cell? ⟨g, off + 5, none⟩ = some (.string XU) := e1
        have hl1 : ([t, u].length : Nat) = 2 := rfl
        have hcc : (2 : Int) ≤ c := by have : [t, u].length ≤ c := hc; rw [hl1] at this; omega
        rw [hl1] at c0
        have hz1 : XT.size ≤ 2000 := by rw [hXT, bsize9]; exact hx t (by simp)
        have hz2 : XU.size ≤ 2000 := by rw [hXU, bsize9]; exact hx u (by simp)
        have hcat : ¬ 9223372036854775807 < XT.size + XU.size := by omega
        have HV0 := Lib.hid (show V = if ((kk == 111) && ((XT.toList == [45]) || (XT.toList == [43]))) && (ku == 110) then .tuple #[.string (XT ++ XU), .bool true] else .tuple #[.string { data := #[] }, .bool false] from by
          rw [hV]
          show (if ((t.kind == 111 && (t.text == [45] || t.text == [43])) && u.kind == 110) then Value.tuple #[.string ⟨(t.text ++ u.text).toArray⟩, .bool true] else .tuple #[.string { data := #[] }, .bool false]) = _
          rw [HKB.out, kind_bool u, ← hku, HXL.out, hXT, hXU]
          rw [show (⟨t.text.toArray⟩ : ByteArray) ++ ⟨u.text.toArray⟩ = ⟨(t.text ++ u.text).toArray⟩ from by apply ByteArray.ext; simp]
          rfl)
        clear hC hT hT' hx hc hn hV hXT hkk hKB hXl hXU hku e1
        cases b1 : (kk == 111) with
        | false =>
          have HV := Lib.hid (show V = .tuple #[.string { data := #[] }, .bool false] from by rw [HV0.out, b1]; rfl)
          go_enter Tryd.func75, Tryd.ntmps75
          go_wp2_with fail
          go_ret2
          exact ⟨by rw [HV.out]; rfl, by first | rfl | exact TurnedR.refl _ _⟩
        | true =>
          cases b2 : (XT.toList == [45]) with
          | true =>
            cases b4 : (ku == 110) with
            | false =>
              have HV := Lib.hid (show V = .tuple #[.string { data := #[] }, .bool false] from by rw [HV0.out, b1, b2, b4]; rfl)
              go_enter Tryd.func75, Tryd.ntmps75
              go_wp2_with fail
              go_ret2
              exact ⟨by rw [HV.out]; rfl, by first | rfl | exact TurnedR.refl _ _⟩
            | true =>
              have HV := Lib.hid (show V = .tuple #[.string (XT ++ XU), .bool true] from by rw [HV0.out, b1, b2, b4]; rfl)
              go_enter Tryd.func75, Tryd.ntmps75
              go_upto_region 5 with (fail)
              go_region
              all_goals
                go_wp2_with fail
                go_ret2
                exact ⟨by rw [HV.out]; rfl, HDR.out _⟩
          | false =>
            cases b3 : (XT.toList == [43]) with
            | true =>
              cases b4 : (ku == 110) with
              | false =>
                have HV := Lib.hid (show V = .tuple #[.string { data := #[] }, .bool false] from by rw [HV0.out, b1, b2, b3, b4]; rfl)
                go_enter Tryd.func75, Tryd.ntmps75
                go_wp2_with fail
                go_ret2
                exact ⟨by rw [HV.out]; rfl, by first | rfl | exact TurnedR.refl _ _⟩
              | true =>
                have HV := Lib.hid (show V = .tuple #[.string (XT ++ XU), .bool true] from by rw [HV0.out, b1, b2, b3, b4]; rfl)
                go_enter Tryd.func75, Tryd.ntmps75
                go_upto_region 5 with (fail)
                go_region
                all_goals
                  go_wp2_with fail
                  go_ret2
                  exact ⟨by rw [HV.out]; rfl, HDR.out _⟩
            | false =>
              have HV := Lib.hid (show V = .tuple #[.string { data := #[] }, .bool false] from by rw [HV0.out, b1, b2, b3]; rfl)
              go_enter Tryd.func75, Tryd.ntmps75
              go_wp2_with fail
              go_ret2
              exact ⟨by rw [HV.out]; rfl, by first | rfl | exact TurnedR.refl _ _⟩
      | cons v r =>
        obtain ⟨n, hnn⟩ : ∃ n, n = (t :: u :: v :: r).length := ⟨_, rfl⟩
        have hn1 : ((n : Int) == 1) = false := by rw [beq_eq_false_iff_ne, hnn]; simp; omega
        have hn2 : ((n : Int) == 2) = false := by rw [beq_eq_false_iff_ne, hnn]; simp; omega
        have HV := Lib.hid (show V = .tuple #[.string { data := #[] }, .bool false] from hV)
        rw [← hnn] at c0
        clear hC hT hT' hx hc hn hV hXT hkk hKB hXl hnn
        go_enter Tryd.func75, Tryd.ntmps75
        go_wp2_with fail
        go_ret2
        exact ⟨by rw [HV.out]; rfl, by first | rfl | exact TurnedR.refl _ _⟩
end Go.Proofs.YtgopajddloeclaaDoor
