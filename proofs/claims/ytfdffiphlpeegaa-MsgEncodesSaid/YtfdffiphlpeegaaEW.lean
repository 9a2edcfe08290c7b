/- The document's own writer, as it lies in memory: the next number, the next text, a byte 0, a text that ends. -/
import Derived.Test.YtfdffiphlpeegaaEA
import Derived.Deep.Cut
namespace Go.Proofs.Ytfdffiphlpeegaa
open Go.RowKit Go.Lib Go.WideShapes

/-- A writer that was made behind w0. -/
structure RAt (w0 w : World) (s : XS) (tv nv : Value) : Prop where
  below : Below w0.heap.size w0 w
  lt : w0.heap.size < w.heap.size
  c0 : w.cell? ⟨w0.heap.size, 0, none⟩ = some tv
  c1 : w.cell? ⟨w0.heap.size, 1, none⟩ = some nv
  c2 : w.cell? ⟨w0.heap.size, 2, none⟩ = some (.string ⟨s.B.toArray⟩)
  c3 : w.cell? ⟨w0.heap.size, 3, none⟩ = some (.bool s.bad)
  f0 : w.frozen? ⟨w0.heap.size, 0, none⟩ = false
  f1 : w.frozen? ⟨w0.heap.size, 1, none⟩ = false
  f2 : w.frozen? ⟨w0.heap.size, 2, none⟩ = false
  f3 : w.frozen? ⟨w0.heap.size, 3, none⟩ = false
  texts : TextsIn w0 tv s.T
  nums : NumsIn w0 nv s.N
def IsR (w0 w : World) (s : XS) : Prop := ∃ tv nv, RAt w0 w s tv nv

theorem RAt.put0 {w0 w : World} {s : XS} {tv nv : Value} (h : RAt w0 w s tv nv) {T : List Bs} {tv' : Value} (hT : TextsIn w0 tv' T) : RAt w0 (w.setCell ⟨w0.heap.size, 0, none⟩ tv') { s with T := T } tv' nv := by
  have n1 : (⟨w0.heap.size, 0, none⟩ : Addr) ≠ ⟨w0.heap.size, 1, none⟩ := by intro e; injection e with _ e; cases e
  have n2 : (⟨w0.heap.size, 0, none⟩ : Addr) ≠ ⟨w0.heap.size, 2, none⟩ := by intro e; injection e with _ e; cases e
  have n3 : (⟨w0.heap.size, 0, none⟩ : Addr) ≠ ⟨w0.heap.size, 3, none⟩ := by intro e; injection e with _ e; cases e
  exact ⟨h.below.setCell (Nat.le_refl _) _, by rw [World.size_setCell]; exact h.lt, World.cell?_setCell_same _ _ _ h.c0, (World.cell?_setCell_other _ _ _ _ n1).trans h.c1, (World.cell?_setCell_other _ _ _ _ n2).trans h.c2, (World.cell?_setCell_other _ _ _ _ n3).trans h.c3, by rw [World.frozen?_setCell]; exact h.f0, by rw [World.frozen?_setCell]; exact h.f1, by rw [World.frozen?_setCell]; exact h.f2, by rw [World.frozen?_setCell]; exact h.f3, hT, h.nums⟩
theorem RAt.put1 {w0 w : World} {s : XS} {tv nv : Value} (h : RAt w0 w s tv nv) {N : List Int} {nv' : Value} (hN : NumsIn w0 nv' N) : RAt w0 (w.setCell ⟨w0.heap.size, 1, none⟩ nv') { s with N := N } tv nv' := by
  have n1 : (⟨w0.heap.size, 1, none⟩ : Addr) ≠ ⟨w0.heap.size, 0, none⟩ := by intro e; injection e with _ e; cases e
  have n2 : (⟨w0.heap.size, 1, none⟩ : Addr) ≠ ⟨w0.heap.size, 2, none⟩ := by intro e; injection e with _ e; cases e
  have n3 : (⟨w0.heap.size, 1, none⟩ : Addr) ≠ ⟨w0.heap.size, 3, none⟩ := by intro e; injection e with _ e; cases e
  exact ⟨h.below.setCell (Nat.le_refl _) _, by rw [World.size_setCell]; exact h.lt, (World.cell?_setCell_other _ _ _ _ n1).trans h.c0, World.cell?_setCell_same _ _ _ h.c1, (World.cell?_setCell_other _ _ _ _ n2).trans h.c2, (World.cell?_setCell_other _ _ _ _ n3).trans h.c3, by rw [World.frozen?_setCell]; exact h.f0, by rw [World.frozen?_setCell]; exact h.f1, by rw [World.frozen?_setCell]; exact h.f2, by rw [World.frozen?_setCell]; exact h.f3, h.texts, hN⟩
theorem RAt.put2 {w0 w : World} {s : XS} {tv nv : Value} (h : RAt w0 w s tv nv) (B : Bs) : RAt w0 (w.setCell ⟨w0.heap.size, 2, none⟩ (.string ⟨B.toArray⟩)) { s with B := B } tv nv := by
  have n1 : (⟨w0.heap.size, 2, none⟩ : Addr) ≠ ⟨w0.heap.size, 0, none⟩ := by intro e; injection e with _ e; cases e
  have n2 : (⟨w0.heap.size, 2, none⟩ : Addr) ≠ ⟨w0.heap.size, 1, none⟩ := by intro e; injection e with _ e; cases e
  have n3 : (⟨w0.heap.size, 2, none⟩ : Addr) ≠ ⟨w0.heap.size, 3, none⟩ := by intro e; injection e with _ e; cases e
  exact ⟨h.below.setCell (Nat.le_refl _) _, by rw [World.size_setCell]; exact h.lt, (World.cell?_setCell_other _ _ _ _ n1).trans h.c0, (World.cell?_setCell_other _ _ _ _ n2).trans h.c1, World.cell?_setCell_same _ _ _ h.c2, (World.cell?_setCell_other _ _ _ _ n3).trans h.c3, by rw [World.frozen?_setCell]; exact h.f0, by rw [World.frozen?_setCell]; exact h.f1, by rw [World.frozen?_setCell]; exact h.f2, by rw [World.frozen?_setCell]; exact h.f3, h.texts, h.nums⟩
theorem RAt.put3 {w0 w : World} {s : XS} {tv nv : Value} (h : RAt w0 w s tv nv) (b : Bool) : RAt w0 (w.setCell ⟨w0.heap.size, 3, none⟩ (.bool b)) { s with bad := b } tv nv := by
  have n1 : (⟨w0.heap.size, 3, none⟩ : Addr) ≠ ⟨w0.heap.size, 0, none⟩ := by intro e; injection e with _ e; cases e
  have n2 : (⟨w0.heap.size, 3, none⟩ : Addr) ≠ ⟨w0.heap.size, 1, none⟩ := by intro e; injection e with _ e; cases e
  have n3 : (⟨w0.heap.size, 3, none⟩ : Addr) ≠ ⟨w0.heap.size, 2, none⟩ := by intro e; injection e with _ e; cases e
  exact ⟨h.below.setCell (Nat.le_refl _) _, by rw [World.size_setCell]; exact h.lt, (World.cell?_setCell_other _ _ _ _ n1).trans h.c0, (World.cell?_setCell_other _ _ _ _ n2).trans h.c1, (World.cell?_setCell_other _ _ _ _ n3).trans h.c2, World.cell?_setCell_same _ _ _ h.c3, by rw [World.frozen?_setCell]; exact h.f0, by rw [World.frozen?_setCell]; exact h.f1, by rw [World.frozen?_setCell]; exact h.f2, by rw [World.frozen?_setCell]; exact h.f3, h.texts, h.nums⟩
/-- A world that left all up to the writer as it was. -/
theorem RAt.grow {w0 w w' : World} {s : XS} {tv nv : Value} (h : RAt w0 w s tv nv) (hb : Below (w0.heap.size + 1) w w') : RAt w0 w' s tv nv := by
  have k : ∀ i, w'.cell? ⟨w0.heap.size, i, none⟩ = w.cell? ⟨w0.heap.size, i, none⟩ := fun i => hb.cell (p := ⟨w0.heap.size, i, none⟩) (Nat.lt_succ_self _)
  have f : ∀ i, w'.frozen? ⟨w0.heap.size, i, none⟩ = w.frozen? ⟨w0.heap.size, i, none⟩ := fun i => hb.frozen (p := ⟨w0.heap.size, i, none⟩) (Nat.lt_succ_self _)
  exact ⟨h.below.trans (hb.mono (Nat.le_succ _)), Nat.lt_of_lt_of_le h.lt hb.size, (k 0).trans h.c0, (k 1).trans h.c1, (k 2).trans h.c2, (k 3).trans h.c3, (f 0).trans h.f0, (f 1).trans h.f1, (f 2).trans h.f2, (f 3).trans h.f3, h.texts, h.nums⟩

/-- What an operation of the document's writer leaves. -/
def ROut (w0 : World) (s : XS) (e : Ending) (w' : World) : Prop := e = .returned (.tuple #[]) ∧ IsR w0 w' s

set_option maxHeartbeats 4000000 in
theorem rnum_any (w0 w : World) (s : XS) (h : IsR w0 w s) :
    Calls Try.prog 31 #[.pointer (some ⟨w0.heap.size, 0, none⟩)] w fun e w' => e = .returned (.int .i64 (xNum s).1) ∧ IsR w0 w' (xNum s).2 := by
  obtain ⟨tv, nv, hW⟩ := h
  obtain ⟨a, n, c, rfl, hl, hn, hc, _⟩ := hW.nums
  have c1 := hW.c1
  have f1 := hW.f1
  have f3 := hW.f3
  have c3 := hW.c3
  have HW := Lib.hid hW
  obtain ⟨T, N, B, b⟩ := s
  clear hW
  cases N with
  | nil =>
    obtain rfl : 0 = n := hl
    have HP := Lib.hid (HW.out.put3 true)
    go_enter Try.func31, Try.ntmps31
    go_wp2_with fail
    go_ret
    exact ⟨rfl, _, _, HP.out⟩
  | cons t ts =>
    obtain ⟨g, off, rfl, hg, hcell, h1, _, _, hts, hA, hB⟩ := HW.out.nums.tail
    have d0 := (HW.out.below.cell (p := ⟨g, off, none⟩) hg).trans hcell
    have h1' : (1 : Int) ≤ n := by omega
    have hn' : (n : Int) ≤ c := by omega
    have h0' : 0 < n := by omega
    have hne : ((n : Int) == 0) = false := by rw [beq_eq_false_iff_ne]; omega
    have HA := Lib.hid hA; have HB := Lib.hid hB
    clear hl hA hB hcell
    by_cases hc1 : c = 1
    · subst hc1
      obtain rfl : n = 1 := by omega
      have HP := Lib.hid (HW.out.put1 (HB.out rfl (some ⟨g, off, none⟩)))
      go_enter Try.func31, Try.ntmps31
      go_wp2_with fail
      go_ret
      exact ⟨rfl, _, _, HP.out⟩
    · have hc2 : (2 : Int) ≤ c := by omega
      have HP := Lib.hid (HW.out.put1 (HA.out (by omega)))
      go_enter Try.func31, Try.ntmps31
      go_wp2_with fail
      go_ret
      exact ⟨rfl, _, _, HP.out⟩

set_option maxHeartbeats 4000000 in
theorem rtext_any (w0 w : World) (s : XS) (h : IsR w0 w s) :
    Calls Try.prog 29 #[.pointer (some ⟨w0.heap.size, 0, none⟩)] w fun e w' => e = .returned (.string ⟨(xText s).1.toArray⟩) ∧ IsR w0 w' (xText s).2 := by
  obtain ⟨tv, nv, hW⟩ := h
  obtain ⟨a, n, c, rfl, hl, hn, hc, _⟩ := hW.texts
  have c0 := hW.c0
  have f0 := hW.f0
  have f3 := hW.f3
  have c3 := hW.c3
  have HW := Lib.hid hW
  obtain ⟨T, N, B, b⟩ := s
  clear hW
  cases T with
  | nil =>
    obtain rfl : 0 = n := hl
    have HP := Lib.hid (HW.out.put3 true)
    go_enter Try.func29, Try.ntmps29
    go_wp2_with fail
    go_ret
    exact ⟨rfl, _, _, HP.out⟩
  | cons t ts =>
    obtain ⟨g, off, rfl, hg, hcell, h1, _, _, hts, hA, hB⟩ := HW.out.texts.tail
    have d0 := (HW.out.below.cell (p := ⟨g, off, none⟩) hg).trans hcell
    have h1' : (1 : Int) ≤ n := by omega
    have hn' : (n : Int) ≤ c := by omega
    have h0' : 0 < n := by omega
    have hne : ((n : Int) == 0) = false := by rw [beq_eq_false_iff_ne]; omega
    have HA := Lib.hid hA; have HB := Lib.hid hB
    clear hl hA hB hcell
    by_cases hc1 : c = 1
    · subst hc1
      obtain rfl : n = 1 := by omega
      have HP := Lib.hid (HW.out.put0 (HB.out rfl (some ⟨g, off, none⟩)))
      go_enter Try.func29, Try.ntmps29
      go_wp2_with fail
      go_ret
      exact ⟨rfl, _, _, HP.out⟩
    · have hc2 : (2 : Int) ≤ c := by omega
      have HP := Lib.hid (HW.out.put0 (HA.out (by omega)))
      go_enter Try.func29, Try.ntmps29
      go_wp2_with fail
      go_ret
      exact ⟨rfl, _, _, HP.out⟩

set_option maxHeartbeats 4000000 in
theorem rzero_any (w : World) (t : ByteArray) (ht : t.size ≤ 1000000) :
    Calls Try.prog 46 #[.string t] w fun e w' => e = .returned (.bool (decide ((0 : UInt8) ∈ bytes t))) ∧ w = w' := by
  go_enter Try.func46, Try.ntmps46
  go_wp2_with fail
  go_loopw [3, 3] (fun i _ wx => ∃ j : Nat, j ≤ t.size ∧ i = .int .i64 j ∧ (0 : UInt8) ∉ (bytes t).take j ∧ wx = w) (fun i _ _ => t.size - (RowKit.intOf i).toNat)
  case atStart => exact ⟨0, Nat.zero_le _, rfl, by simp, rfl⟩
  case round =>
    obtain ⟨j, hj, rfl, hno, hwr⟩ := hrel
    subst hwr
    have HNO := Lib.hid hno
    clear hno
    by_cases hlt : j < t.size
    · have hlt' : (j : Int) < t.size := by omega
      have hjl : j < (bytes t).length := by rw [blen]; exact hlt
      have HS := Lib.hid (List.take_succ_eq_append_getElem hjl)
      have hg : (bytes t)[j] = t[j] := rfl
      rw [hg] at HS
      clear hg
      by_cases h0 : t[j] = 0
      · have hb0 : ((t[j].toNat : Int) == 0) = true := by rw [h0]; rfl
        have HR := Lib.hid (show decide ((0 : UInt8) ∈ bytes t) = true from decide_eq_true (by
          have : (0 : UInt8) ∈ (bytes t).take (j + 1) := by rw [HS.out, h0]; simp
          exact List.mem_of_mem_take this))
        clear h0
        go_wp2_with fail
        go_ret
        exact ⟨by rw [HR.out]; rfl, by trivial⟩
      · have hb0 : ((t[j].toNat : Int) == 0) = false := by
          rw [beq_eq_false_iff_ne]; intro e
          exact h0 (UInt8.toNat_inj.mp (by have : t[j].toNat = 0 := by omega
                                           exact this))
        have HN := Lib.hid (show (0 : UInt8) ∉ (bytes t).take (j + 1) from by
          rw [HS.out, List.mem_append, List.mem_singleton]
          rintro (h | h)
          · exact HNO.out h
          · exact h0 h.symm)
        clear h0
        go_wp2_with fail
        go_roundw
        case measure => first | omega | (simp [RowKit.intOf]; omega)
        case rel => exact ⟨j + 1, by omega, by go_num, HN.out, by trivial⟩
    · obtain rfl : j = t.size := by omega
      have HR := Lib.hid (show decide ((0 : UInt8) ∈ bytes t) = false from decide_eq_false (by
        have := HNO.out
        rw [← blen, List.take_length] at this
        exact this))
      clear hlt
      go_wp2_with fail
      go_ret
      exact ⟨by rw [HR.out]; rfl, by trivial⟩
end Go.Proofs.Ytfdffiphlpeegaa
