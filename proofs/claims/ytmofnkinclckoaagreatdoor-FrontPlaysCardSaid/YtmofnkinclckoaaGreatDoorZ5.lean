/- Contracts and mathematics: MDone. -/
import Derived.Test.YtmofnkinclckoaaGreatDoorZ4
import Derived.Lib.SlBytesRow
import Derived.Lib.BufferRead
namespace Go.Proofs.YtmofnkinclckoaaGreatDoor
open Go.RowKit Go.Lib Go.WideShapes

theorem rep_room {f : WS → Option WS} (hf : ∀ s s', f s = some s' → room s' ≤ room s) : ∀ (n : Nat) (s s' : WS), rep n f s = some s' → room s' ≤ room s := by
  intro n
  induction n with
  | zero => intro s s' h; rw [rep] at h; obtain rfl := Option.some.inj h; exact Nat.le_refl _
  | succ n ih =>
    intro s s' h
    rw [rep] at h
    cases hs : f s with
    | none => rw [hs] at h; cases h
    | some s1 =>
      rw [hs] at h
      exact Nat.le_trans (ih s1 s' h) (hf s s1 hs)
theorem zero_room (s : WS) : room (wZero s) = room s + 1 := by
  unfold room wZero
  simp only [List.length_append, List.length_cons, List.length_nil]
  omega
theorem pair_room' {s s' : WS} (h : wPair s = some s') : room s' ≤ room s := by
  unfold wPair at h
  split at h
  · cases h
  · split at h
    · cases h
    · have := room_text h; omega
theorem item_room' {s s' : WS} (h : wItem s = some s') : room s' ≤ room s := by
  unfold wItem at h
  cases hN : wNumber 1 255 1 s with
  | none => rw [hN] at h; cases h
  | some p =>
    rw [hN] at h
    have := room_text h
    have := (room_number (n := p.1) (s' := p.2) hN (by omega)).1
    omega
theorem pairs_room {s s' : WS} (h : wPairs s = some s') : room s' ≤ room s := by
  unfold wPairs at h
  cases hN : wNum 0 s.T.length s with
  | none => rw [hN] at h; cases h
  | some p =>
    rw [hN] at h
    have h : (if p.1 % 2 = 0 then (rep p.1.toNat wPair p.2).map wZero else none) = some s' := h
    have h0 := (room_num (n := p.1) (s' := p.2) hN).2.2
    split at h
    · cases hr : rep p.1.toNat wPair p.2 with
      | none => rw [hr] at h; cases h
      | some s2 =>
        rw [hr] at h
        obtain rfl := Option.some.inj h
        have := rep_room (fun s s' => pair_room') _ _ _ hr
        have := zero_room s2
        omega
    · cases h
theorem fields_room {s s' : WS} (h : wFields s = some s') : room s' ≤ room s := by
  unfold wFields at h
  cases hN : wNum 0 s.T.length s with
  | none => rw [hN] at h; cases h
  | some p =>
    rw [hN] at h
    have h : (rep p.1.toNat wItem p.2).map wZero = some s' := h
    have h0 := (room_num (n := p.1) (s' := p.2) hN).2.2
    cases hr : rep p.1.toNat wItem p.2 with
    | none => rw [hr] at h; cases h
    | some s2 =>
      rw [hr] at h
      obtain rfl := Option.some.inj h
      have := rep_room (fun s s' => item_room') _ _ _ hr
      have := zero_room s2
      omega
theorem counted_room {f : WS → Option WS} (hf : ∀ s s', f s = some s' → room s' ≤ room s) {s s' : WS} (h : wCounted f s = some s') : room s' ≤ room s := by
  unfold wCounted at h
  cases hN : wNumber 0 100 2 s with
  | none => rw [hN] at h; cases h
  | some p =>
    rw [hN] at h
    exact Nat.le_trans (rep_room hf _ _ _ h) (room_number (n := p.1) (s' := p.2) hN (by omega)).1
theorem field_room {c : UInt8} {s s' : WS} (h : wField c s = some s') : room s' ≤ room s := by
  unfold wField at h
  split at h; · have := room_text h; omega
  split at h; · exact byte_room h
  split at h; · exact long_room h
  split at h; · exact pairs_room h
  split at h; · exact fields_room h
  split at h; · exact counted_room (fun _ _ => short_room) h
  split at h; · exact counted_room (fun _ _ => long_room) h
  split at h; · exact counted_room (fun _ _ => value_room) h
  split at h; · exact counted_room (fun _ _ => name_room) h
  obtain rfl := Option.some.inj h; exact Nat.le_refl _

theorem wAll_append (a b : Bs) : ∀ s, wAll (a ++ b) s = (wAll a s).bind (wAll b) := by
  induction a with
  | nil => intro s; rfl
  | cons c a ih =>
    intro s
    show (wField c s).bind (wAll (a ++ b)) = ((wField c s).bind (wAll a)).bind (wAll b)
    cases wField c s with
    | none => rfl
    | some s1 => exact ih s1
theorem wAll_next {l : Bs} {j : Nat} {s s1 s2 : WS} (hj : j < l.length) (h : wAll (l.take j) s = some s1) (hf : wField l[j] s1 = some s2) : wAll (l.take (j + 1)) s = some s2 := by
  rw [List.take_succ_eq_append_getElem hj, wAll_append, h]
  show (wField l[j] s1).bind (wAll []) = _
  rw [hf]; rfl
theorem wAll_fail {l : Bs} {j : Nat} {s s1 : WS} (hj : j < l.length) (h : wAll (l.take j) s = some s1) (hf : wField l[j] s1 = none) : wAll l s = none := by
  have e : l = l.take j ++ (l[j] :: l.drop (j + 1)) := by rw [List.getElem_cons_drop, List.take_append_drop]
  rw [e, wAll_append, h]
  show (wField l[j] s1).bind _ = none
  rw [hf]; rfl

theorem TextsIn.mono {w w' : World} {v : Value} {T : List Bs} (h : TextsIn w v T) (hb : Below w.heap.size w w') : TextsIn w' v T := by
  obtain ⟨a, n, c, hv, hl, hn, hc, hr⟩ := h
  refine ⟨a, n, c, hv, hl, hn, hc, hr.imp id ?_⟩
  rintro ⟨g, off, ha, hg, hcell⟩
  exact ⟨g, off, ha, Nat.lt_of_lt_of_le hg hb.size, fun i t ht => (hb.cell (p := ⟨g, off + i, none⟩) hg).trans (hcell i t ht)⟩
theorem NumsIn.mono {w w' : World} {v : Value} {N : List Int} (h : NumsIn w v N) (hb : Below w.heap.size w w') : NumsIn w' v N := by
  obtain ⟨a, n, c, hv, hl, hn, hc, hr⟩ := h
  refine ⟨a, n, c, hv, hl, hn, hc, hr.imp id ?_⟩
  rintro ⟨g, off, ha, hg, hcell⟩
  exact ⟨g, off, ha, Nat.lt_of_lt_of_le hg hb.size, fun i t ht => (hb.cell (p := ⟨g, off + i, none⟩) hg).trans (hcell i t ht)⟩
theorem is_new {w w0 : World} {T : List Bs} {N : List Int} {tv nv : Value} (hT : TextsIn w tv T) (hN : NumsIn w nv N) (hb : Below w.heap.size w w0) :
    IsW w0 (w0.alloc (.cells #[tv, nv, .slice none 0 0] 98)) ⟨T, N, []⟩ := by
  refine ⟨tv, nv, .slice none 0 0, (Below.refl _ _).alloc (Nat.le_refl _) _, by rw [World.size_alloc]; exact Nat.lt_succ_self _, ?_, ?_, ?_, ?_, ?_, ?_, hT.mono hb, hN.mono hb, ⟨rfl, .inl ⟨rfl, rfl⟩⟩⟩ <;> simp [go_sem]
/-- A []byte of the call's own that holds just the bytes of R, turned into a text. -/
theorem conv_owned {P : Program} {w : World} {base : Nat} {v : Value} {src e dst : TypeId} (R : ByteArray) (hs : P.underlying src = some (.slice e)) (he : P.underlying e = some (.int .u8)) (hd : P.underlying dst = some .string)
    (h : w.ownsRow base e 1 v R.size (bcells (bytes R))) : (convert src dst v).run P w = .ok (.string R) w := by
  obtain ⟨hl, h2⟩ := h
  rcases h2 with ⟨rfl, h0⟩ | ⟨g, cap, cur, rfl, hb, hg, hn, hm, hc, ht⟩
  · have hR : R = ByteArray.empty := by
      apply ByteArray.ext; apply Array.toList_inj.1
      have : R.data.toList.length = 0 := by rw [blen]; exact h0
      simpa using List.eq_nil_of_length_eq_zero this
    subst hR
    exact run_convert_nil_bytes w src dst e 0 hs he hd
  · refine run_convert_whole w src e dst hs he hd g 0 R ?_ cap
    intro i hi
    rw [Nat.zero_add, cell_of_row w g i cur e (0, 0) hg]
    have hu : (bcells (bytes R))[i]? = some (.int .u8 (R[i].toNat : Int)) := by
      simp only [bcells, bytes, List.getElem?_map]
      have : R.data.toList[i]? = some R[i] := by
        rw [List.getElem?_eq_getElem (by rw [blen]; exact hi)]; rfl
      rw [this]; rfl
    rw [← ht, List.getElem?_take] at hu
    split at hu
    · simpa using hu
    · cases hu

set_option maxRecDepth 100000 in
/-- A writer's body as a text. -/
theorem own_text {w : World} {base n : Nat} {v : Value} {B : Bs} (h : w.ownsRow base 5 1 v n (bcells B)) (hl : B.length = n) : (convert 65 9 v).run Tryz.prog w = .ok (.string ⟨B.toArray⟩) w := by
  exact conv_owned ⟨B.toArray⟩ rfl rfl rfl (by rw [bsize, hl]; exact h)
end Go.Proofs.YtmofnkinclckoaaGreatDoor
