/- Contracts and mathematics: DRM, DLast, DPairs, DFlds. -/
import Derived.Test.YtfdffiphlpeegaaDoorZ10
namespace Go.Proofs.YtfdffiphlpeegaaDoor

def Nar (f : RS → Option RS) : Prop := ∀ s s', f s = some s' → droom s' ≤ droom s
theorem dtake_room {k : Nat} {b : Bs} {s s' : RS} (h : rTake k s = some (b, s')) : s'.S.length + k = s.S.length ∧ droom s' + k = droom s := by
  obtain ⟨e1, e2, e3, e4⟩ := take_out h
  have := congrArg List.length e1
  rw [List.length_append, e2] at this
  refine ⟨by omega, ?_⟩
  unfold droom
  rw [e3, e4]; omega
theorem signed_room {k : Nat} {n : Int} {s s' : RS} (h : rSigned k s = some (n, s')) : s'.S.length + k = s.S.length ∧ droom s' + k = droom s := by
  obtain ⟨b, e1, e2, _, _, e5, e6⟩ := signed_out h
  have := congrArg List.length e1
  rw [List.length_append, e2] at this
  refine ⟨by omega, ?_⟩
  unfold droom
  rw [e5, e6]; omega
theorem keep_room (n : Int) (s : RS) : droom (rKeep n s) = droom s + 1 := by
  unfold droom rKeep
  show s.S.length + (s.T.length + (s.N ++ [n]).length) = _
  rw [List.length_append, List.length_singleton]; omega
theorem nar_num (k : Nat) (hk : 1 ≤ k) : Nar (fun s => (rSigned k s).map fun p => rKeep p.1 p.2) := by
  intro s s' h
  cases hx : rSigned k s with
  | none => simp only [hx] at h; cases h
  | some p =>
    obtain ⟨n, s1⟩ := p
    simp only [hx] at h
    obtain rfl := Option.some.inj h
    have h1 := (signed_room hx).2
    have h2 := keep_room n s1
    show droom (rKeep n s1) ≤ _
    omega
theorem nar_short : Nar rShort := nar_num 2 (by decide)
theorem nar_long : Nar rLong := nar_num 4 (by decide)
theorem dbyte_room {s s' : RS} (h : rByte s = some s') : droom s' ≤ droom s ∧ s'.S.length < s.S.length := by
  obtain ⟨c, e1, e2, e3, _⟩ := byte_out h
  unfold droom
  rw [e1, e2, e3, List.length_append, List.length_singleton, List.length_cons]
  omega
theorem dtext_room {s s' : RS} (h : rText s = some s') : droom s' ≤ droom s ∧ s'.S.length < s.S.length := by
  obtain ⟨t, e1, _, e3, e4⟩ := text_out h
  unfold droom
  rw [e1, e3, e4, List.length_append, List.length_append, List.length_append, List.length_singleton, List.length_singleton]
  omega
theorem nar_text : Nar rText := fun _ _ h => (dtext_room h).1
theorem ditem_room {s s' : RS} (h : rItem s = some s') : droom s' ≤ droom s ∧ s'.S.length < s.S.length := by
  unfold rItem at h
  cases hx : rByte s with
  | none => rw [hx] at h; cases h
  | some s1 =>
    rw [hx] at h
    have h1 := dbyte_room hx
    have h2 := dtext_room h
    omega
theorem draw_room {n : Int} {s s' : RS} (h : rRaw n s = some s') : droom s' ≤ droom s + 1 := by
  unfold rRaw at h
  cases hx : rTake n.toNat s with
  | none => rw [hx] at h; cases h
  | some p =>
    obtain ⟨b, s1⟩ := p
    rw [hx] at h
    obtain rfl := Option.some.inj h
    have h1 := (dtake_room hx).2
    unfold droom at h1 ⊢
    show s1.S.length + ((s1.T ++ [b]).length + s1.N.length) ≤ _
    rw [List.length_append, List.length_singleton]; omega
theorem nar_value : Nar rValue := by
  intro s s' h
  unfold rValue at h
  cases hx : rSigned 4 s with
  | none => rw [hx] at h; cases h
  | some p =>
    obtain ⟨n, s1⟩ := p
    rw [hx] at h
    simp only [Option.bind_some] at h
    have h1 := (signed_room hx).2
    have h2 := keep_room n s1
    split at h
    · split at h
      · obtain rfl := Option.some.inj h; omega
      · have := draw_room h; omega
    · cases h
theorem nar_name : Nar rName := by
  intro s s' h
  unfold rName at h
  cases hx : rText s with
  | none => rw [hx] at h; cases h
  | some s1 =>
    rw [hx] at h
    replace h : rTail s1 = some s' := h
    unfold rTail at h
    cases hy : rTake 18 s1 with
    | none => rw [hy] at h; cases h
    | some p =>
      obtain ⟨b, s2⟩ := p
      rw [hy] at h
      simp only [Option.bind_some] at h
      split at h
      · obtain rfl := Option.some.inj h
        have h1 := (dtext_room hx).1
        have h2 := (dtake_room hy).2
        omega
      · cases h
theorem nar_rep {f : RS → Option RS} (hf : Nar f) : ∀ n, Nar (rRep n f)
  | 0 => fun s s' h => by obtain rfl := Option.some.inj h; exact Nat.le_refl _
  | n + 1 => fun s s' h => by
    rw [rRep] at h
    cases hx : f s with
    | none => rw [hx] at h; cases h
    | some s1 => rw [hx] at h; exact Nat.le_trans (nar_rep hf n s1 s' h) (hf s s1 hx)
theorem nar_counted {f : RS → Option RS} (hf : Nar f) : Nar (rCounted f) := by
  intro s s' h
  unfold rCounted at h
  cases hx : rSigned 2 s with
  | none => rw [hx] at h; cases h
  | some p =>
    obtain ⟨n, s1⟩ := p
    rw [hx] at h
    simp only [Option.bind_some] at h
    split at h
    · have h1 := (signed_room hx).2
      have h2 := keep_room n s1
      have h3 := nar_rep hf _ _ _ h
      omega
    · cases h

/-! ### rows, step by step -/
def rowN (f : RS → Option RS) (s : RS) : Option (Nat × RS) := rRow f s.S.length s
theorem row_fuel {f : RS → Option RS} (hf : ∀ s s', f s = some s' → s'.S.length < s.S.length) : ∀ (k : Nat) (s : RS), s.S.length ≤ k → rRow f k s = rRow f s.S.length s := by
  intro k
  induction k using Nat.strongRecOn with
  | _ k ih =>
    intro s h
    cases k with
    | zero => rw [show s.S.length = 0 by omega]
    | succ k =>
      cases hS : s.S with
      | nil => rw [rRow, hS]; rfl
      | cons b r =>
        rw [List.length_cons, rRow, rRow, hS]
        simp only
        split
        · rfl
        · cases hx : f s with
          | none => rfl
          | some s1 =>
            have h1 := hf s s1 hx
            rw [hS, List.length_cons] at h1 h
            simp only [Option.bind_some]
            rw [ih k (by omega) s1 (by omega), ih r.length (by omega) s1 (by omega)]
theorem rowN_nil {f : RS → Option RS} {s : RS} (h : s.S = []) : rowN f s = none := by
  unfold rowN; rw [h]; rfl
theorem rowN_end {f : RS → Option RS} {s : RS} {r : Bs} (h : s.S = 0 :: r) : rowN f s = some (0, { s with S := r }) := by
  unfold rowN; rw [h, List.length_cons, rRow, h]; rfl
theorem rowN_next {f : RS → Option RS} (hf : ∀ s s', f s = some s' → s'.S.length < s.S.length) {s : RS} {b : UInt8} {r : Bs} (h : s.S = b :: r) (hb : b ≠ 0) : rowN f s = (f s).bind fun s1 => (rowN f s1).map fun p => (p.1 + 1, p.2) := by
  unfold rowN
  rw [h, List.length_cons, rRow, h]
  simp only
  rw [if_neg hb]
  cases hx : f s with
  | none => rfl
  | some s1 =>
    have h1 := hf s s1 hx
    rw [h, List.length_cons] at h1
    simp only [Option.bind_some]
    rw [row_fuel hf r.length s1 (by omega)]
theorem nar_row {f : RS → Option RS} (hf : Nar f) : ∀ (k : Nat) (s : RS) (m : Nat) (s' : RS), rRow f k s = some (m, s') → droom s' + 1 ≤ droom s := by
  intro k
  induction k with
  | zero => intro s m s' h; cases h
  | succ k ih =>
    intro s m s' h
    rw [rRow] at h
    cases hS : s.S with
    | nil => rw [hS] at h; cases h
    | cons b r =>
      rw [hS] at h
      simp only at h
      split at h
      · simp only [Option.some.injEq, Prod.mk.injEq] at h
        obtain ⟨_, rfl⟩ := h
        unfold droom
        rw [hS, List.length_cons]; show r.length + (s.T.length + s.N.length) + 1 ≤ _; omega
      · cases hx : f s with
        | none => rw [hx] at h; cases h
        | some s1 =>
          rw [hx] at h
          cases hy : rRow f k s1 with
          | none => simp only [Option.bind_some, hy] at h; cases h
          | some p =>
            obtain ⟨m1, s2⟩ := p
            simp only [Option.bind_some, hy, Option.map_some, Option.some.injEq, Prod.mk.injEq] at h
            obtain ⟨_, rfl⟩ := h
            have h1 := ih s1 m1 s2 hy
            have h2 := hf s s1 hx
            omega
theorem nar_pairs : Nar rPairs := by
  intro s s' h
  unfold rPairs at h
  cases hx : rRow rText s.S.length s with
  | none => rw [hx] at h; cases h
  | some p =>
    obtain ⟨m, s1⟩ := p
    rw [hx] at h
    simp only [Option.bind_some] at h
    split at h
    · obtain rfl := Option.some.inj h
      have h1 := nar_row nar_text _ _ _ _ hx
      have h2 := keep_room m s1
      omega
    · cases h
theorem nar_fields : Nar rFields := by
  intro s s' h
  unfold rFields at h
  cases hx : rRow rItem s.S.length (rKeep 0 s) with
  | none => rw [hx] at h; cases h
  | some p =>
    obtain ⟨m, s1⟩ := p
    rw [hx] at h
    obtain rfl := Option.some.inj h
    have h1 := nar_row (fun _ _ h => (ditem_room h).1) _ _ _ _ hx
    have h2 := keep_room 0 s
    have h3 : droom { s1 with N := s1.N.set s.N.length (m : Int) } = droom s1 := by unfold droom; simp
    show droom { s1 with N := s1.N.set s.N.length (m : Int) } ≤ _
    omega
theorem nar_field (c : UInt8) : Nar (rField c) := by
  intro s s' h
  unfold rField at h
  split at h
  · exact nar_text _ _ h
  split at h
  · exact (dbyte_room h).1
  split at h
  · exact nar_long _ _ h
  split at h
  · exact nar_pairs _ _ h
  split at h
  · exact nar_fields _ _ h
  split at h
  · exact nar_counted nar_short _ _ h
  split at h
  · exact nar_counted nar_long _ _ h
  split at h
  · exact nar_counted nar_value _ _ h
  split at h
  · exact nar_counted nar_name _ _ h
  · obtain rfl := Option.some.inj h; exact Nat.le_refl _

theorem rrep_add (f : RS → Option RS) : ∀ (a b : Nat) (s : RS), rRep (a + b) f s = (rRep a f s).bind (rRep b f) := by
  intro a
  induction a with
  | zero => intro b s; rw [Nat.zero_add]; rfl
  | succ a ih =>
    intro b s
    rw [Nat.succ_add, rRep, rRep]
    cases f s with
    | none => rfl
    | some s1 => exact ih b s1
theorem rrep_fail {f : RS → Option RS} {j n : Nat} {s s' : RS} (h : rRep j f s = some s') (hf : f s' = none) (hj : j < n) : rRep n f s = none := by
  rw [show n = j + ((n - j - 1) + 1) by omega, rrep_add, h]
  show rRep ((n - j - 1) + 1) f s' = none
  rw [rRep, hf]; rfl
theorem rrep_next {f : RS → Option RS} {j : Nat} {s s' s2 : RS} (h : rRep j f s = some s') (hf : f s' = some s2) : rRep (j + 1) f s = some s2 := by
  rw [rrep_add, h]
  show rRep 1 f s' = some s2
  rw [rRep, hf]; rfl
end Go.Proofs.YtfdffiphlpeegaaDoor

namespace Go.Proofs.YtfdffiphlpeegaaDoor
open Go.RowKit Go.Lib Go.WideShapes

/-- What the look for an end leaves. -/
def LastOut (w0 : World) (s : RS) (e : Ending) (w' : World) : Prop :=
  (∃ r, s.S = 0 :: r ∧ e = .returned (.bool true) ∧ IsD w0 w' { s with S := r }) ∨ (∃ b r, s.S = b :: r ∧ b ≠ 0 ∧ e = .returned (.bool false) ∧ IsD w0 w' s) ∨ (s.S = [] ∧ Lost w0 e w')

set_option maxRecDepth 100000 in
set_option maxHeartbeats 4000000 in
theorem last_any (w0 w : World) (s : RS) (hl : s.S.length ≤ 1000000) (h : IsD w0 w s) :
    Calls Tryd.prog 64 #[.pointer (some ⟨w0.heap.size, 0, none⟩)] w (LastOut w0 s) := by
  obtain ⟨tv, nv, hW⟩ := h
  have c0 := hW.c0
  have HW := Lib.hid hW
  clear hW
  obtain ⟨S, T, N⟩ := s
  cases S with
  | nil =>
    replace c0 : w.cell? ⟨w0.heap.size, 0, none⟩ = some (.string { data := #[] }) := c0
    go_enter Tryd.func64, Tryd.ntmps64
    go_wp2_with fail
    refine (demand_no _).mono ?_; rintro e w1 ⟨rfl, rfl⟩
    go_wp2_with fail
    exact ⟨rfl, .inr (.inr ⟨rfl, rfl, HW.out.below⟩)⟩
  | cons b r =>
    obtain ⟨sb, hsb⟩ : ∃ sb : ByteArray, sb = ⟨(b :: r).toArray⟩ := ⟨_, rfl⟩
    have hsz : sb.size = r.length + 1 := by rw [hsb, bsize]; rfl
    have h0 : 0 < sb.size := by omega
    have h0' : (0 : Int) < sb.size := by omega
    have hb0 : sb[0] = b := by subst hsb; rfl
    have hne : (sb.toList == ([] : List UInt8)) = false := by
      rw [toList_eq, beq_eq_false_iff_ne]; intro e
      rw [hsb] at e; cases e
    replace c0 : w.cell? ⟨w0.heap.size, 0, none⟩ = some (.string sb) := by rw [hsb]; exact c0
    have HB0 := Lib.hid hb0
    have HTK := Lib.hid (fun W (hD : DAt w0 W ⟨b :: r, T, N⟩ tv nv) => take_is (n := 1) (b := [b]) (s1 := ⟨r, T, N⟩) (by unfold rTake; rw [if_pos (by show 1 ≤ (b :: r).length; simp)]; rfl) hl hD)
    clear hsb hsz hb0
    by_cases hb : b = 0
    · have hbb : ((sb[0].toNat : Int) != 0) = false := by rw [HB0.out, hb]; rfl
      have HBB := Lib.hid hb
      clear hb
      go_enter Tryd.func64, Tryd.ntmps64
      go_wp2_with fail
      refine (demand_ok _).mono ?_; rintro e w1 ⟨rfl, rfl⟩
      go_wp2_with fail
      refine (HTK.out _ HW.out).mono ?_; rintro e w2 ⟨rfl, hW2⟩
      have HW2 := Lib.hid hW2
      clear hW2
      go_wp2_with fail
      go_ret
      exact .inl ⟨r, by rw [HBB.out], rfl, _, _, HW2.out⟩
    · have hbb : ((sb[0].toNat : Int) != 0) = true := by
        rw [HB0.out, bne_iff_ne]; intro e
        exact hb (UInt8.toNat_inj.mp (by have : b.toNat = 0 := by omega
                                         exact this))
      have HBB := Lib.hid hb
      clear hb
      go_enter Tryd.func64, Tryd.ntmps64
      go_wp2_with fail
      refine (demand_ok _).mono ?_; rintro e w1 ⟨rfl, rfl⟩
      go_wp2_with fail
      go_ret
      exact .inr (.inl ⟨b, r, rfl, HBB.out, rfl, _, _, HW.out⟩)

theorem all_zero {b : Bs} (h : b.length = 18) : (∀ x ∈ b, x = 0) ↔ b = List.replicate 18 0 := by
  rw [List.eq_replicate_iff]
  exact ⟨fun hx => ⟨h, hx⟩, fun hx => hx.2⟩

set_option maxRecDepth 100000 in
set_option maxHeartbeats 4000000 in
theorem name_r (w0 w : World) (s : RS) (hl : droom s ≤ 900000) (h : IsD w0 w s) :
    Calls Tryd.prog 46 #[.pointer (some ⟨w0.heap.size, 0, none⟩)] w (DOut w0 (rName s)) := by
  have HT := Lib.hid (text_r w0 w s hl h)
  have HTR := Lib.hid (fun s' => dtext_room (s := s) (s' := s'))
  unfold rName
  generalize rText s = R at HT HTR ⊢
  clear h
  go_enter Tryd.func46, Tryd.ntmps46
  go_wp2_with fail
  refine HT.out.mono ?_; rintro e w1 (⟨s1, rfl, rfl, hI⟩ | ⟨rfl, rfl, hB⟩)
  · have hl1 : s1.S.length ≤ 1000000 := by have := (HTR.out s1 rfl).1; unfold droom at this hl; omega
    have HK := Lib.hid (take_any w0 w1 s1 18 hl1 hI)
    have HTO := Lib.hid (fun b s' => take_out (k := 18) (s := s1) (b := b) (s' := s'))
    obtain ⟨RT, hRT⟩ : ∃ RT, RT = rTail s1 := ⟨_, rfl⟩
    have HG := Lib.hid (show (some s1).bind rTail = RT from hRT.symm)
    unfold rTail at hRT
    generalize rTake 18 s1 = R1 at HK hRT HTO
    have HRT := Lib.hid hRT
    clear hI hRT HT
    go_wp2_with fail
    refine HK.out.mono ?_; rintro e w2 (⟨b, s2, rfl, rfl, hI⟩ | ⟨rfl, rfl, hB⟩)
    · have hbl := (HTO.out b s2 rfl).2.1
      have HI := Lib.hid hI
      have HA := Lib.hid (all_zero hbl)
      have HTM := Lib.hid (trim_any ⟨b.toArray⟩ w2 (by rw [bsize, hbl]; decide) (by rw [bsize, hbl]; decide))
      have HBB := Lib.hid (show bytes (⟨b.toArray⟩ : ByteArray) = b by simp [bytes])
      rw [HBB.out] at HTM
      clear hI hbl
      go_wp2_with fail
      refine HTM.out.mono ?_; rintro e w3 ⟨r, rfl, hr, hB3⟩
      have HB3 := Lib.hid hB3
      have HR := Lib.hid hr
      clear hB3 hr
      by_cases hz : r.size = 0
      · have he : (r.toList == ([] : List UInt8)) = true := by
          rw [toList_eq]
          have : bytes r = [] := List.length_eq_zero_iff.1 (by rw [blen]; exact hz)
          rw [show r.data.toList = [] from this]; rfl
        have HZ := Lib.hid (show RT = some s2 by rw [HRT.out]; simp only [Option.bind_some]; rw [if_pos (HA.out.1 (HR.out.1 hz))])
        clear hz
        go_wp2_with fail
        refine (demand_ok _).mono ?_; rintro e w4 ⟨rfl, rfl⟩
        go_wp2_with fail
        go_end0
        obtain ⟨tv, nv, hD⟩ := HI.out
        exact .inl ⟨s2, HG.out.trans HZ.out, rfl, tv, nv, hD.grow HB3.out⟩
      · have he : (r.toList == ([] : List UInt8)) = false := by
          rw [toList_eq, beq_eq_false_iff_ne]; intro e
          exact hz (by rw [← blen, show bytes r = [] from e]; rfl)
        have HZ := Lib.hid (show RT = none by rw [HRT.out]; simp only [Option.bind_some]; rw [if_neg (fun h => hz (HR.out.2 (HA.out.2 h)))])
        clear hz
        go_wp2_with fail
        refine (demand_no _).mono ?_; rintro e w4 ⟨rfl, rfl⟩
        go_wp2_with fail
        obtain ⟨tv, nv, hD⟩ := HI.out
        exact ⟨rfl, .inr ⟨HG.out.trans HZ.out, rfl, (hD.grow HB3.out).below⟩⟩
    · go_wp2_with fail
      exact ⟨rfl, .inr ⟨HG.out.trans HRT.out, rfl, hB⟩⟩
  · go_wp2_with fail
    exact ⟨rfl, .inr ⟨rfl, rfl, hB⟩⟩
end Go.Proofs.YtfdffiphlpeegaaDoor

namespace Go.Proofs.YtfdffiphlpeegaaDoor
open Go.RowKit Go.Lib Go.WideShapes

theorem row_rel_next {f : RS → Option RS} (hf : ∀ s s', f s = some s' → s'.S.length < s.S.length) {s x x' : RS} {j : Nat} {b : UInt8} {r : Bs} (h : rowN f s = (rowN f x).map fun p => (p.1 + j, p.2)) (hS : x.S = b :: r) (hb : b ≠ 0) (hx : f x = some x') : rowN f s = (rowN f x').map fun p => (p.1 + (j + 1), p.2) := by
  rw [h, rowN_next hf hS hb, hx]
  simp only [Option.bind_some]
  cases rowN f x' with
  | none => rfl
  | some p => simp only [Option.map_some]; rw [show p.1 + 1 + j = p.1 + (j + 1) by omega]
theorem row_rel_none {f : RS → Option RS} (hf : ∀ s s', f s = some s' → s'.S.length < s.S.length) {s x : RS} {j : Nat} {b : UInt8} {r : Bs} (h : rowN f s = (rowN f x).map fun p => (p.1 + j, p.2)) (hS : x.S = b :: r) (hb : b ≠ 0) (hx : f x = none) : rowN f s = none := by
  rw [h, rowN_next hf hS hb, hx]; rfl
theorem row_rel_end {f : RS → Option RS} {s x : RS} {j : Nat} {r : Bs} (h : rowN f s = (rowN f x).map fun p => (p.1 + j, p.2)) (hS : x.S = 0 :: r) : rowN f s = some (j, { x with S := r }) := by
  rw [h, rowN_end hS]; simp
theorem row_rel_nil {f : RS → Option RS} {s x : RS} {j : Nat} (h : rowN f s = (rowN f x).map fun p => (p.1 + j, p.2)) (hS : x.S = []) : rowN f s = none := by
  rw [h, rowN_nil hS]; rfl

set_option maxRecDepth 100000 in
set_option maxHeartbeats 8000000 in
theorem pairs_r (w0 w : World) (s : RS) (hl : droom s ≤ 850000) (h : IsD w0 w s) :
    Calls Tryd.prog 41 #[.pointer (some ⟨w0.heap.size, 0, none⟩)] w (DOut w0 (rPairs s)) := by
  obtain ⟨RT, hRT⟩ : ∃ RT, RT = rPairs s := ⟨_, rfl⟩
  rw [← hRT]
  have HRT := Lib.hid (show RT = (rowN rText s).bind fun p => if p.1 % 2 = 0 then some (rKeep p.1 p.2) else none from hRT)
  have H := Lib.hid h
  clear hRT h
  go_enter Tryd.func41, Tryd.ntmps41
  go_wp2_with fail
  go_loopg [2] s.S.length (fun g n wr => ∃ (j : Nat) (x : RS), n = .int .i64 j ∧ g = x.S.length ∧ j + x.S.length ≤ s.S.length ∧ droom x ≤ 850000 ∧ rowN rText s = (rowN rText x).map (fun p => (p.1 + j, p.2)) ∧ IsD w0 wr x)
  case atStart => exact ⟨0, s, rfl, rfl, by omega, hl, by cases rowN rText s <;> rfl, H.out⟩
  case round =>
    obtain ⟨j, x, rfl, hg, hjx, hrx, hrow, hI⟩ := hrel
    have HG := Lib.hid hg; have HROW := Lib.hid hrow; have HI := Lib.hid hI
    have hjl : j ≤ 1000000 := by unfold droom at hl; omega
    have hSx : x.S.length ≤ 1000000 := by unfold droom at hrx; omega
    clear hg hrow hI
    go_wp2_with fail
    refine (last_any w0 wr x hSx HI.out).mono ?_; rintro e w1 (⟨r, hS, rfl, hI⟩ | ⟨b, r, hS, hb, rfl, hI⟩ | ⟨hS, rfl, hB⟩)
    · have HE := Lib.hid (row_rel_end HROW.out hS)
      have HI1 := Lib.hid hI
      have hN1 : x.N.length ≤ 1000000 := by unfold droom at hrx; omega
      have hmod : (j : Int).tmod 2 = (j : Int) % 2 := Int.tmod_eq_emod_of_nonneg (by omega)
      clear hS hI
      by_cases hp : j % 2 = 0
      · have hp' : ((j : Int) % 2 == 0) = true := by rw [beq_iff_eq]; omega
        have HZ := Lib.hid (show RT = some (rKeep j { x with S := r }) by rw [HRT.out, HE.out]; simp only [Option.bind_some]; rw [if_pos hp])
        clear hp
        go_wp2_with fail
        refine (demand_ok _).mono ?_; rintro e w2 ⟨rfl, rfl⟩
        go_wp2_with fail
        refine (keep_any w0 _ { x with S := r } j hN1 HI1.out).mono ?_; rintro e w3 (⟨s2, h2, rfl, hI⟩ | ⟨h2, _, _⟩)
        case inr => cases h2
        obtain rfl := Option.some.inj h2
        have HI2 := Lib.hid hI
        clear hI h2
        go_wp2_with fail
        go_end0
        exact .inl ⟨_, HZ.out, rfl, HI2.out⟩
      · have hp' : ((j : Int) % 2 == 0) = false := by rw [beq_eq_false_iff_ne]; omega
        have HZ := Lib.hid (show RT = none by rw [HRT.out, HE.out]; simp only [Option.bind_some]; rw [if_neg hp])
        clear hp
        go_wp2_with fail
        refine (demand_no _).mono ?_; rintro e w2 ⟨rfl, rfl⟩
        go_wp2_with fail
        obtain ⟨_, _, hD⟩ := HI1.out
        exact ⟨rfl, .inr ⟨HZ.out, rfl, hD.below⟩⟩
    · have HS := Lib.hid hS; have HB := Lib.hid hb; have HI1 := Lib.hid hI
      clear hS hb hI
      go_wp2_with fail
      refine (text_r w0 w1 x (by omega) HI1.out).mono ?_; rintro e w2 (⟨x', hx, rfl, hI⟩ | ⟨hx, rfl, hB⟩)
      · have HN := Lib.hid (row_rel_next (fun s s' h => (dtext_room h).2) HROW.out HS.out HB.out hx)
        have hd := dtext_room hx
        have hd1 := hd.1
        have hd2 := hd.2
        have HI2 := Lib.hid hI
        clear hx hd hI
        go_wp2_with fail
        go_roundg x'.S.length
        case measure => have := HG.out; omega
        case rel => exact ⟨j + 1, x', by go_num, rfl, by omega, by omega, HN.out, HI2.out⟩
      · have HN := Lib.hid (row_rel_none (fun s s' h => (dtext_room h).2) HROW.out HS.out HB.out hx)
        clear hx
        go_wp2_with fail
        exact ⟨rfl, .inr ⟨HRT.out.trans (by rw [HN.out]; rfl), rfl, hB⟩⟩
    · have HN := Lib.hid (row_rel_nil HROW.out hS)
      clear hS
      go_wp2_with fail
      exact ⟨rfl, .inr ⟨HRT.out.trans (by rw [HN.out]; rfl), rfl, hB⟩⟩
end Go.Proofs.YtfdffiphlpeegaaDoor

namespace Go.Proofs.YtfdffiphlpeegaaDoor
open Go.RowKit Go.Lib Go.WideShapes

theorem setL_one (xs : List Value) (o : Nat) (v : Value) : setL xs o [v] = xs.set o v := rfl
theorem ncells_set (N : List Int) (i : Nat) (n : Int) : (ncells N).set i (.int .i64 n) = ncells (N.set i n) := by
  unfold ncells; rw [List.map_set]
/-- A number of the row written anew. -/
theorem DAt.setN {w0 w : World} {s : RS} {tv : Value} {g c k : Nat} (h : DAt w0 w s tv (.slice (some ⟨g, 0, none⟩) k c)) (hk : s.N.length = k) (i : Nat) (n : Int) : DAt w0 (w.setCell ⟨g, i, none⟩ (.int .i64 n)) { s with N := s.N.set i n } tv (.slice (some ⟨g, 0, none⟩) k c) := by
  have hr := own_room (by have := h.nums; rw [hk] at this; exact this)
  have hg : w0.heap.size + 1 ≤ g := hr.2.2.1
  have hN : w.ownsRow (w0.heap.size + 1) 3 1 (.slice (some ⟨g, 0, none⟩) k c) k (ncells s.N) := by have := h.nums; rw [hk] at this; exact this
  obtain ⟨h1, h2⟩ := own_stored hN [.int .i64 n] i
  rw [setL_one, ncells_set] at h1
  have k0 : ∀ j, (⟨g, i, none⟩ : Addr) ≠ ⟨w0.heap.size, j, none⟩ := by
    intro j e
    injection e with e1 _ _
    omega
  have hT : (w.setCell ⟨g, i, none⟩ (.int .i64 n)).ownsRow (w0.heap.size + 1) 9 1 tv s.T.length (tcells s.T) :=
    h.texts.kept h2 (own_apart hN h.texts string_ne_int.symm)
  exact ⟨h.below.setCell (by show w0.heap.size ≤ g; omega) _, by rw [World.size_setCell]; exact h.lt, (World.cell?_setCell_other _ _ _ _ (k0 0)).trans h.c0, (World.cell?_setCell_other _ _ _ _ (k0 1)).trans h.c1, (World.cell?_setCell_other _ _ _ _ (k0 2)).trans h.c2, by rw [World.frozen?_setCell]; exact h.f0, by rw [World.frozen?_setCell]; exact h.f1, by rw [World.frozen?_setCell]; exact h.f2, hT, by
    show (w.setCell ⟨g, i, none⟩ (.int .i64 n)).ownsRow _ _ 1 _ (s.N.set i n).length (ncells (s.N.set i n))
    rw [List.length_set, hk]
    exact h1⟩

set_option maxRecDepth 100000 in
set_option maxHeartbeats 8000000 in
theorem fields_r (w0 w : World) (s : RS) (hl : droom s ≤ 850000) (h : IsD w0 w s) :
    Calls Tryd.prog 42 #[.pointer (some ⟨w0.heap.size, 0, none⟩)] w (DOut w0 (rFields s)) := by
  obtain ⟨RT, hRT⟩ : ∃ RT, RT = rFields s := ⟨_, rfl⟩
  rw [← hRT]
  have HRT := Lib.hid (show RT = (rowN rItem (rKeep 0 s)).map fun p => { p.2 with N := p.2.N.set s.N.length p.1 } from hRT)
  have HRI := Lib.hid (fun s s' (h : rItem s = some s') => (ditem_room h).2)
  obtain ⟨tv0, nv0, hD0⟩ := h
  obtain ⟨a0, c0', rfl⟩ := ownsRow_form hD0.nums
  have c2 := hD0.c2
  have H := Lib.hid (show IsD w0 w s from ⟨_, _, hD0⟩)
  have hN0 : s.N.length ≤ 1000000 := by unfold droom at hl; omega
  obtain ⟨NL, hNL⟩ : ∃ NL : Nat, NL = s.N.length := ⟨_, rfl⟩
  have HNL := Lib.hid hNL
  rw [← hNL] at c2 HRT
  have hNLb : NL ≤ 1000000 := by rw [hNL]; exact hN0
  have hk0 := keep_room 0 s
  have HS0 := Lib.hid (show droom (rKeep 0 s) ≤ 850001 ∧ (rKeep 0 s).S.length ≤ 1000000 ∧ NL < (rKeep 0 s).N.length by
    refine ⟨by omega, by show s.S.length ≤ _; unfold droom at hl; omega, ?_⟩
    show NL < (s.N ++ [0]).length
    rw [List.length_append, List.length_singleton]; omega)
  clear hRT hD0 hNL hk0 hl
  go_enter Tryd.func42, Tryd.ntmps42
  go_wp2_with fail
  refine (keep_any w0 w s 0 hN0 H.out).mono ?_; rintro e w1 (⟨s2, h2, rfl, hI⟩ | ⟨h2, _, _⟩)
  case inr => cases h2
  obtain rfl := Option.some.inj h2
  generalize rKeep 0 s = s0 at hI HRT HS0
  have HI0 := Lib.hid hI
  clear hI h2 c2
  go_wp2_with fail
  go_loopg [3] s0.S.length (fun g n wr => ∃ (j : Nat) (x : RS), n = .int .i64 j ∧ g = x.S.length ∧ j + x.S.length ≤ s0.S.length ∧ droom x ≤ 850001 ∧ NL < x.N.length ∧ rowN rItem s0 = (rowN rItem x).map (fun p => (p.1 + j, p.2)) ∧ IsD w0 wr x)
  case atStart => exact ⟨0, s0, rfl, rfl, by omega, HS0.out.1, HS0.out.2.2, by cases rowN rItem s0 <;> rfl, HI0.out⟩
  case round =>
    obtain ⟨j, x, rfl, hg, hjx, hrx, hnx, hrow, hI⟩ := hrel
    have HG := Lib.hid hg; have HROW := Lib.hid hrow; have HI := Lib.hid hI
    have hjl : j ≤ 1000000 := by have := HS0.out.2.1; omega
    have hSx : x.S.length ≤ 1000000 := by unfold droom at hrx; omega
    clear hg hrow hI
    go_wp2_with fail
    refine (last_any w0 wr x hSx HI.out).mono ?_; rintro e w1 (⟨r, hS, rfl, hI⟩ | ⟨b, r, hS, hb, rfl, hI⟩ | ⟨hS, rfl, hB⟩)
    · have HE := Lib.hid (row_rel_end HROW.out hS)
      have HZ := Lib.hid (show RT = some { ({ x with S := r } : RS) with N := x.N.set NL j } by rw [HRT.out, HE.out]; rfl)
      have hN1 : x.N.length ≤ 1000000 := by unfold droom at hrx; omega
      obtain ⟨tv, nv, hD⟩ := hI
      obtain ⟨XL, hXL⟩ : ∃ XL : Nat, XL = x.N.length := ⟨_, rfl⟩
      have hnumsX : w1.ownsRow (w0.heap.size + 1) 3 1 nv XL (ncells x.N) := by rw [hXL]; exact hD.nums
      obtain ⟨g, c, rfl⟩ : ∃ g c, nv = .slice (some ⟨g, 0, none⟩) XL c := by
        rcases hnumsX.2 with ⟨_, h0⟩ | ⟨g, cap, cur, hv, _⟩
        · exfalso; omega
        · exact ⟨g, cap, hv⟩
      have hroom := own_room hnumsX
      have c2 := hD.c2
      have hlt : (NL : Int) < XL := by omega
      have hcell : ∃ v, w1.cell? ⟨g, NL, none⟩ = some v := Option.isSome_iff_exists.1 (hroom.2.2.2.2.2.2 NL (by omega))
      obtain ⟨v, hcell⟩ := hcell
      have hfr := hroom.2.2.2.2.2.1 NL
      have hcap : XL ≤ c := hroom.1
      have HP := Lib.hid (hD.setN (s := { x with S := r }) hXL.symm NL j)
      have HXL := Lib.hid hXL
      clear hS hD hnumsX hroom hXL hnx
      go_wp2_with fail
      go_end0
      exact .inl ⟨_, HZ.out, rfl, _, _, HP.out⟩
    · have HS := Lib.hid hS; have HB := Lib.hid hb; have HI1 := Lib.hid hI
      have HU := Lib.hid (unsigned_any w0 w1 x 1 (by decide) hSx hI)
      have HIT := Lib.hid (show rItem x = ((rUnsigned 1 x).map fun p => rKeep p.1 p.2).bind rText from rfl)
      have HUO := Lib.hid (show ∀ n s', rUnsigned 1 x = some (n, s') → s'.S.length + 1 = x.S.length ∧ droom s' + 1 = droom x ∧ s'.N = x.N from by
        intro n s' e
        unfold rUnsigned at e
        cases hy : rTake 1 x with
        | none => rw [hy] at e; cases e
        | some p =>
          obtain ⟨b, s1⟩ := p
          rw [hy] at e
          simp only [Option.map_some, Option.some.injEq, Prod.mk.injEq] at e
          obtain ⟨_, rfl⟩ := e
          exact ⟨(dtake_room hy).1, (dtake_room hy).2, (take_out hy).2.2.2⟩)
      clear hS hb hI
      go_wp2_with fail
      generalize rUnsigned 1 x = U at HU HIT HUO
      refine HU.out.mono ?_; rintro e w2 (⟨n, s1, rfl, rfl, hI⟩ | ⟨rfl, rfl, hB⟩)
      · obtain ⟨h1, h2, h3⟩ := HUO.out n s1 rfl
        have HI2 := Lib.hid hI
        have hN1 : s1.N.length ≤ 1000000 := by unfold droom at hrx h2; omega
        have hk := keep_room n s1
        have HNX := Lib.hid (show NL < (rKeep n s1).N.length by
          show NL < (s1.N ++ [n]).length
          rw [h3, List.length_append, List.length_singleton]; omega)
        have hd2 : droom (rKeep n s1) ≤ 850001 := by omega
        have HSS := Lib.hid (show (rKeep n s1).S.length + 1 = x.S.length from h1)
        have HIT := Lib.hid (show rItem x = rText (rKeep n s1) from HIT.out)
        clear hI h1 h2 h3 hk HUO
        go_wp2_with fail
        refine (keep_any w0 w2 s1 n hN1 HI2.out).mono ?_; rintro e w3 (⟨s2, h2, rfl, hI⟩ | ⟨h2, _, _⟩)
        case inr => cases h2
        obtain rfl := Option.some.inj h2
        generalize rKeep n s1 = s2 at hI HNX hd2 HSS HIT
        have HI3 := Lib.hid hI
        clear hI h2
        go_wp2_with fail
        refine (text_r w0 w3 s2 (by omega) HI3.out).mono ?_; rintro e w4 (⟨x', hx, rfl, hI⟩ | ⟨hx, rfl, hB⟩)
        · have HN := Lib.hid (row_rel_next HRI.out HROW.out HS.out HB.out (HIT.out.trans hx))
          have hd := dtext_room hx
          have hd1 := hd.1
          have hd3 := hd.2
          have HNN := Lib.hid (show x'.N = s2.N by obtain ⟨_, _, _, _, e⟩ := text_out hx; exact e)
          have HI4 := Lib.hid hI
          clear hx hd hI
          go_wp2_with fail
          go_roundg x'.S.length
          case measure => have := HG.out; have := HSS.out; omega
          case rel => exact ⟨j + 1, x', by go_num, rfl, by have := HSS.out; omega, by omega, by rw [HNN.out]; exact HNX.out, HN.out, HI4.out⟩
        · have HN := Lib.hid (row_rel_none HRI.out HROW.out HS.out HB.out (HIT.out.trans hx))
          clear hx
          go_wp2_with fail
          exact ⟨rfl, .inr ⟨HRT.out.trans (by rw [HN.out]; rfl), rfl, hB⟩⟩
      · have HN := Lib.hid (row_rel_none HRI.out HROW.out HS.out HB.out (show rItem x = none from HIT.out))
        go_wp2_with fail
        exact ⟨rfl, .inr ⟨HRT.out.trans (by rw [HN.out]; rfl), rfl, hB⟩⟩
    · have HN := Lib.hid (row_rel_nil HROW.out hS)
      clear hS
      go_wp2_with fail
      exact ⟨rfl, .inr ⟨HRT.out.trans (by rw [HN.out]; rfl), rfl, hB⟩⟩
end Go.Proofs.YtfdffiphlpeegaaDoor
