/- Contracts and mathematics: KFeed, DSum. -/
import Derived.Test.YtmofnkinclckoaaGreatDoorZ21
import Derived.Deep.DeepAppendWide
import Derived.LoopTactic
import Derived.Test.YtmofnkinclckoaaGreatDoorZ13
namespace Go.Proofs.YtmofnkinclckoaaGreatDoor
open Go.RowKit Go.Lib Go.WideShapes

theorem info_event : (Tryz.prog.info? 38).map (fun i => (i.zero, i.size, i.bytes)) = some (some (.agg #[.int .u8 0, .string { data := #[] }, .string { data := #[] }, .string { data := #[] }, .slice none 0 0]), 5, 80) := by kernel_rfl

/-- A front that goes on: its reader in block q, what that holds. -/
structure FIs (w : World) (p q : Nat) (v : Value) (s : ByteArray) (b : Bool) : Prop where
  cell : FCell w p (.pointer (some ⟨q, 0, none⟩)) b
  rd : RIs w q v s (!b) 0
  ne : p ≠ q
  row : some p ≠ v.ownBlock
def FSt (w : World) (p q : Nat) (v : Value) : Option (ByteArray × Bool) → Prop
  | some (s, b) => FIs w p q v s b
  | none => ∃ b, FCell w p (.pointer none) b
/-- Nothing that was there has turned, but for blocks p and q and one row. -/
structure TurnedF (w w' : World) (p q : Nat) (row : Option Nat) : Prop where
  os : w'.os = w.os
  tape : w'.tape = w.tape
  output : w'.output = w.output
  size : w.heap.size ≤ w'.heap.size
  block : ∀ k, k < w.heap.size → k ≠ p → k ≠ q → some k ≠ row → w'.heap[k]? = w.heap[k]?
theorem TurnedF.refl (w : World) (p q : Nat) (row : Option Nat) : TurnedF w w p q row := ⟨rfl, rfl, rfl, Nat.le_refl _, fun _ _ _ _ _ => rfl⟩
theorem TurnedF.below {w w' : World} {p q : Nat} {row : Option Nat} {B : Nat} (h : TurnedF w w' p q row) (hB : B ≤ w.heap.size) (hp : B ≤ p) (hq : B ≤ q) (hr : ∀ k, row = some k → B ≤ k) : Below B w w' :=
  ⟨h.os, h.tape, h.output, h.size, fun k hk => h.block k (by omega) (by omega) (by omega) (fun e => by have := hr k e.symm; omega)⟩
theorem TurnedF.q {w w1 w' : World} {p q : Nat} {row : Option Nat} (h : TurnedF w w1 p q row) (h2 : Turned w1 w' q none) : TurnedF w w' p q row :=
  ⟨h2.os.trans h.os, h2.tape.trans h.tape, h2.output.trans h.output, Nat.le_trans h.size h2.size, fun k hk hp hq hr => (h2.block k (Nat.lt_of_lt_of_le hk h.size) hq (by simp)).trans (h.block k hk hp hq hr)⟩
theorem TurnedF.p {w w1 w' : World} {p q : Nat} {row : Option Nat} (h : TurnedF w w1 p q row) (h2 : Turned w1 w' p none) : TurnedF w w' p q row :=
  ⟨h2.os.trans h.os, h2.tape.trans h.tape, h2.output.trans h.output, Nat.le_trans h.size h2.size, fun k hk hp hq hr => (h2.block k (Nat.lt_of_lt_of_le hk h.size) hp (by simp)).trans (h.block k hk hp hq hr)⟩
theorem TurnedF.b {w w1 w' : World} {p q : Nat} {row : Option Nat} (h : TurnedF w w1 p q row) (h2 : Below w.heap.size w1 w') : TurnedF w w' p q row :=
  ⟨h2.os.trans h.os, h2.tape.trans h.tape, h2.output.trans h.output, Nat.le_trans h.size h2.size, fun k hk hp hq hr => (h2.block k hk).trans (h.block k hk hp hq hr)⟩
theorem TurnedF.one {w w1 : World} {p q : Nat} {row : Option Nat} (h : Turned w w1 q row) : TurnedF w w1 p q row :=
  ⟨h.os, h.tape, h.output, h.size, fun k hk _ hq hr => h.block k hk hq hr⟩

/-- The cells of an event in a row v; its numbers lie apart from it, above B. -/
def EvAt (w : World) (B : Nat) (v : Value) (ys : List Value) (i : Nat) (E : Ev) : Prop := ∃ sl, ys[i * 5]? = some (.int .u8 (E.k.toNat : Nat)) ∧ ys[i * 5 + 1]? = some (.string ⟨E.u.toArray⟩) ∧ ys[i * 5 + 2]? = some (.string ⟨E.d.toArray⟩) ∧ ys[i * 5 + 3]? = some (.string ⟨E.t.toArray⟩) ∧ ys[i * 5 + 4]? = some sl ∧ EvNums w (fun g => B ≤ g ∧ some g ≠ v.ownBlock) E.n sl
def EvRow (w : World) (B : Nat) (v : Value) (L : List Ev) : Prop := ∃ xs, w.ownsRow B 38 5 v L.length xs ∧ ∀ i E, L[i]? = some E → EvAt w B v xs i E
theorem EvRow.nil (w : World) (B : Nat) : EvRow w B (.slice none 0 0) [] := ⟨[], ⟨rfl, .inl ⟨rfl, rfl⟩⟩, fun i x h => by cases h⟩
theorem nums_keep {w w' : World} {B : Nat} {v : Value} {n : List Int} (h : NumsIn w v n) (_ : n ≠ []) (hq : ∀ a m d, v = .slice a m d → ∀ g off, a = some ⟨g, off, none⟩ → B ≤ g) (hz : w.heap.size ≤ w'.heap.size) (hb : ∀ k, B ≤ k → k < w.heap.size → w'.heap[k]? = w.heap[k]?) : NumsIn w' v n := by
  obtain ⟨a', n', c', hv, hl, h1, h2, hr⟩ := h
  refine ⟨a', n', c', hv, hl, h1, h2, hr.imp id ?_⟩
  rintro ⟨g, off, hga, hlt, hc⟩
  refine ⟨g, off, hga, Nat.lt_of_lt_of_le hlt hz, fun j t ht => ?_⟩
  rw [World.cell?_of_block (a := ⟨g, off + j, none⟩) (hb g (hq _ _ _ hv g off hga) hlt)]
  exact hc j t ht
theorem EvNums.keep {w w' : World} {B : Nat} {v sl : Value} {n : List Int} (h : EvNums w (fun g => B ≤ g ∧ some g ≠ v.ownBlock) n sl) (hz : w.heap.size ≤ w'.heap.size) (hb : ∀ k, B ≤ k → k < w.heap.size → w'.heap[k]? = w.heap[k]?) : EvNums w' (fun g => B ≤ g ∧ some g ≠ v.ownBlock) n sl := by
  obtain ⟨b, m, d, rfl, h2, h3⟩ := h
  refine ⟨b, m, d, rfl, ?_, h3⟩
  by_cases hn : n = []
  · subst hn
    obtain ⟨a', n', c', hv, hl, h1, h2', hr⟩ := h2
    exact ⟨a', n', c', hv, hl, h1, h2', .inl rfl⟩
  · exact nums_keep h2 hn (fun a m' d' e g off ha => by injection e with e1 _ _; exact (h3 hn g off (e1.trans ha)).1) hz hb
theorem EvRow.keep {w w' : World} {B : Nat} {v : Value} {L : List Ev} (h : EvRow w B v L) (hz : w.heap.size ≤ w'.heap.size) (hb : ∀ k, B ≤ k → k < w.heap.size → w'.heap[k]? = w.heap[k]?) : EvRow w' B v L := by
  obtain ⟨xs, h1, h2⟩ := h
  refine ⟨xs, ⟨h1.1, h1.2.imp id fun ⟨g, cap, cur, e1, e2, e3, e4⟩ => ⟨g, cap, cur, e1, e2, (hb g e2 (Array.getElem?_eq_some_iff.1 e3).1).trans e3, e4⟩⟩, fun i E hi => ?_⟩
  obtain ⟨sl, c0, c1, c2, c3, c4, c5⟩ := h2 i E hi
  exact ⟨sl, c0, c1, c2, c3, c4, c5.keep hz hb⟩
theorem EvRow.base {w : World} {B B' : Nat} {v : Value} {L : List Ev} (h : EvRow w B v L) (hB : B' ≤ B) : EvRow w B' v L := by
  obtain ⟨xs, h1, h2⟩ := h
  refine ⟨xs, ⟨h1.1, h1.2.imp id fun ⟨g, cap, cur, e1, e2, e3⟩ => ⟨g, cap, cur, e1, Nat.le_trans hB e2, e3⟩⟩, fun i E hi => ?_⟩
  obtain ⟨sl, c0, c1, c2, c3, c4, b, m, d, e1, e2, e3⟩ := h2 i E hi
  exact ⟨sl, c0, c1, c2, c3, c4, b, m, d, e1, e2, fun hn g off e => ⟨Nat.le_trans hB (e3 hn g off e).1, (e3 hn g off e).2⟩⟩
/-- A row of events that grows by one. -/
theorem EvRow.put {w w' : World} {B : Nat} {v v' sl : Value} {L : List Ev} {E : Ev} {xs : List Value} (hx : ∀ i E, L[i]? = some E → EvAt w B v xs i E) (hl : xs.length = L.length * 5) (hO : w'.ownsRow B 38 5 v' (L.length + 1) (xs ++ [.int .u8 (E.k.toNat : Nat), .string ⟨E.u.toArray⟩, .string ⟨E.d.toArray⟩, .string ⟨E.t.toArray⟩, sl])) (hE : EvNums w (fun g => B ≤ g ∧ some g ≠ v.ownBlock) E.n sl) (hg : w.grownBy w' v.ownBlock) (hf : ∀ k, v'.ownBlock = some k → v.ownBlock = some k ∨ w.heap.size ≤ k) : EvRow w' B v' (L ++ [E]) := by
  have hk : ∀ n (y : Value), EvNums w (fun g => B ≤ g ∧ some g ≠ v.ownBlock) n y → EvNums w' (fun g => B ≤ g ∧ some g ≠ v'.ownBlock) n y := by
    rintro n y ⟨b, m, d, rfl, h2, h3⟩
    refine ⟨b, m, d, rfl, ?_, fun hn g off e => ⟨(h3 hn g off e).1, fun e9 => ?_⟩⟩
    · by_cases hn : n = []
      · subst hn
        obtain ⟨a', n', c', hv, hl, h1, h2', hr⟩ := h2
        exact ⟨a', n', c', hv, hl, h1, h2', .inl rfl⟩
      · obtain ⟨a', n', c', hv, hl, h1, h2', hr⟩ := h2
        injection hv with q1 q2 q3
        subst q1 q2 q3
        exact ⟨b, m, d, rfl, hl, h1, h2', hr.imp id fun ⟨g, off, hga, hlt, hc⟩ => ⟨g, off, hga, Nat.lt_of_lt_of_le hlt hg.size, fun i t ht => hg.cell (hc i t ht) (h3 hn g off hga).2⟩⟩
    · rcases hf g e9.symm with hh | hh
      · exact (h3 hn g off e).2 hh.symm
      · obtain ⟨a', n', c', hv, hl, h1, h2', hr⟩ := h2
        injection hv with q1 q2 q3
        subst q1 q2 q3
        rcases hr with hr | ⟨g', off', hga, hlt, _⟩
        · exact hn hr
        · rw [e] at hga; cases hga; omega
  refine ⟨_, by rw [List.length_append, List.length_singleton]; exact hO, fun i F hi => ?_⟩
  by_cases hlt : i < L.length
  · rw [List.getElem?_append_left hlt] at hi
    obtain ⟨s9, c0, c1, c2, c3, c4, c5⟩ := hx i F hi
    exact ⟨s9, by rw [List.getElem?_append_left (by omega)]; exact c0, by rw [List.getElem?_append_left (by omega)]; exact c1, by rw [List.getElem?_append_left (by omega)]; exact c2, by rw [List.getElem?_append_left (by omega)]; exact c3, by rw [List.getElem?_append_left (by omega)]; exact c4, hk _ _ c5⟩
  · have hi2 : i = L.length := by
      have := (List.getElem?_eq_some_iff.1 hi).1
      rw [List.length_append, List.length_singleton] at this
      omega
    subst hi2
    rw [List.getElem?_append_right (Nat.le_refl _), Nat.sub_self] at hi
    obtain rfl : E = F := Option.some.inj hi
    exact ⟨sl, by rw [List.getElem?_append_right (by omega), show L.length * 5 - xs.length = 0 by omega]; rfl, by rw [List.getElem?_append_right (by omega), show L.length * 5 + 1 - xs.length = 1 by omega]; rfl, by rw [List.getElem?_append_right (by omega), show L.length * 5 + 2 - xs.length = 2 by omega]; rfl, by rw [List.getElem?_append_right (by omega), show L.length * 5 + 3 - xs.length = 3 by omega]; rfl, by rw [List.getElem?_append_right (by omega), show L.length * 5 + 4 - xs.length = 4 by omega]; rfl, hk _ _ hE⟩

/-- Rows of two kinds are two rows. -/
theorem rows_apart {w : World} {base size n p : Nat} {e u : TypeId} {o v : Value} {xs : List Value} {s : ByteArray} (h : w.ownsRow base e size o n xs) (hv : OwnB w u p v s) (hne : e ≠ u) : ∀ k, o.ownBlock = some k → some k ≠ v.ownBlock := by
  intro k hk hkv
  rcases h.2 with ⟨rfl, _⟩ | ⟨g, cap, cur, rfl, hb, hgg, rest⟩
  · simp [Value.ownBlock] at hk
  · simp [Value.ownBlock] at hk
    subst hk
    rcases hv with ⟨rfl, _⟩ | ⟨g', o', cap', cur', rfl, _, h1, _⟩
    · simp [Value.ownBlock] at hkv
    · simp [Value.ownBlock] at hkv
      subst hkv
      rw [hgg] at h1
      simp at h1
      exact hne h1.2

theorem five_cells (w : World) (a b c d e : Value) (T : TypeId) : ∀ j u, [a, b, c, d, e][j]? = some u → (w.alloc (.cells #[a, b, c, d, e] T)).cell? ((⟨w.heap.size, 0, none⟩ : Addr).add j) = some u := by
  intro j u hj
  match j, hj with
  | 0, hj => simp at hj; subst hj; simp [Addr.add, go_sem]
  | 1, hj => simp at hj; subst hj; simp [Addr.add, go_sem]
  | 2, hj => simp at hj; subst hj; simp [Addr.add, go_sem]
  | 3, hj => simp at hj; subst hj; simp [Addr.add, go_sem]
  | 4, hj => simp at hj; subst hj; simp [Addr.add, go_sem]
  | n + 5, hj => simp at hj
theorem over_no (p q : Nat) (b : Bool) (w : World) (h : FCell w p (.pointer (some ⟨q, 0, none⟩)) b) : Calls Tryz.prog 8 #[.pointer (some ⟨p, 0, none⟩)] w fun e w' => e = .returned (.bool false) ∧ w = w' := by
  obtain ⟨c0, c1⟩ := h.cell
  clear h
  go_enter Tryz.func8, Tryz.ntmps8
  go_wp2_with fail
  go_ret
  exact ⟨rfl, rfl⟩
theorem over_yes (p : Nat) (b : Bool) (w : World) (h : FCell w p (.pointer none) b) : Calls Tryz.prog 8 #[.pointer (some ⟨p, 0, none⟩)] w fun e w' => e = .returned (.bool true) ∧ w = w' := by
  obtain ⟨c0, c1⟩ := h.cell
  clear h
  go_enter Tryz.func8, Tryz.ntmps8
  go_wp2_with fail
  go_ret
  exact ⟨rfl, rfl⟩
theorem newF_any (w : World) : Calls Tryz.prog 5 #[] w fun e w' => ∃ p q, e = .returned (.pointer (some ⟨p, 0, none⟩)) ∧ FIs w' p q (.slice none 0 0) { data := #[] } false ∧ Below w.heap.size w w' ∧ (w.heap.size ≤ p ∧ w.heap.size ≤ q) := by
  go_enter Tryz.func5, Tryz.ntmps5
  go_wp2_with fail
  refine (new_any _ _).mono ?_; rintro e w1 ⟨rfl, rfl⟩
  go_wp2_with fail
  go_ret
  refine ⟨w.heap.size + 1, w.heap.size, rfl, ⟨?_, ⟨?_, .inl ⟨rfl, rfl⟩⟩, by omega, by simp [Value.ownBlock]⟩, ((Below.refl _ _).alloc (Nat.le_refl _) _).alloc (by simp) _, by omega, Nat.le_refl _⟩
  · unfold FCell
    have := heap_alloc_new (w.alloc (.cells #[.slice none 0 0, .bool true, .int .i64 0] 67)) (.cells #[.pointer (some ⟨w.heap.size, 0, none⟩), .bool false] 47)
    rw [World.size_alloc] at this
    exact this
  · rw [heap_alloc_old _ _ (by simp)]
    exact heap_alloc_new _ _
end Go.Proofs.YtmofnkinclckoaaGreatDoor

namespace Go.Proofs.YtmofnkinclckoaaGreatDoor

def dsum (s : RS) : Nat := s.S.length + (s.T.map List.length).sum
def NarS (f : RS → Option RS) : Prop := ∀ s s', f s = some s' → dsum s' ≤ dsum s
theorem dsum_take {k : Nat} {b : Bs} {s s' : RS} (h : rTake k s = some (b, s')) : dsum s' + b.length = dsum s := by
  obtain ⟨e1, e2, e3, _⟩ := take_out h
  have := congrArg List.length e1
  rw [List.length_append] at this
  unfold dsum
  rw [e3]; omega
theorem dsum_put (s : RS) (b : Bs) : dsum { s with T := s.T ++ [b] } = dsum s + b.length := by
  unfold dsum
  show s.S.length + ((s.T ++ [b]).map List.length).sum = _
  rw [List.map_append, List.sum_append]
  simp; omega
theorem dsum_signed {k : Nat} {n : Int} {s s' : RS} (h : rSigned k s = some (n, s')) : dsum s' ≤ dsum s := by
  unfold rSigned at h
  cases hx : rTake k s with
  | none => rw [hx] at h; cases h
  | some p =>
    obtain ⟨b, s1⟩ := p
    rw [hx] at h
    simp only [Option.map_some, Option.some.injEq, Prod.mk.injEq] at h
    obtain ⟨_, rfl⟩ := h
    have := dsum_take hx
    omega
theorem dsum_keep (n : Int) (s : RS) : dsum (rKeep n s) = dsum s := rfl
theorem nars_num (k : Nat) : NarS (fun s => (rSigned k s).map fun p => rKeep p.1 p.2) := by
  intro s s' h
  cases hx : rSigned k s with
  | none => simp only [hx] at h; cases h
  | some p =>
    obtain ⟨n, s1⟩ := p
    simp only [hx] at h
    obtain rfl := Option.some.inj h
    have h1 : dsum s1 ≤ dsum s := dsum_signed hx
    exact h1
theorem nars_text : NarS rText := by
  intro s s' h
  obtain ⟨t, e1, _, e3, _⟩ := text_out h
  unfold dsum
  rw [e1, e3, List.map_append, List.sum_append, List.length_append, List.length_append]
  simp; omega
theorem nars_byte : NarS rByte := by
  intro s s' h
  obtain ⟨c, e1, e2, _, _⟩ := byte_out h
  unfold dsum
  rw [e1, e2, List.length_cons]; omega
theorem nars_bind {f g : RS → Option RS} (hf : NarS f) (hg : NarS g) : NarS (fun s => (f s).bind g) := by
  intro s s' h
  cases hx : f s with
  | none => simp only [hx] at h; cases h
  | some s1 => simp only [hx] at h; exact Nat.le_trans (hg _ _ h) (hf _ _ hx)
theorem nars_value : NarS rValue := by
  intro s s' h
  unfold rValue at h
  cases hx : rSigned 4 s with
  | none => rw [hx] at h; cases h
  | some p =>
    obtain ⟨n, s1⟩ := p
    rw [hx] at h
    simp only [Option.bind_some] at h
    have h1 := dsum_signed hx
    split at h
    · split at h
      · obtain rfl := Option.some.inj h; exact h1
      · unfold rRaw at h
        cases hy : rTake n.toNat (rKeep n s1) with
        | none => rw [hy] at h; cases h
        | some p =>
          obtain ⟨b, s2⟩ := p
          rw [hy] at h
          obtain rfl := Option.some.inj h
          have h2 := dsum_take hy
          have h3 := dsum_put s2 b
          have h4 := dsum_keep n s1
          show dsum { s2 with T := s2.T ++ [b] } ≤ _
          omega
    · cases h
theorem nars_tail : NarS rTail := by
  intro s s' h
  unfold rTail at h
  cases hy : rTake 18 s with
  | none => rw [hy] at h; cases h
  | some p =>
    obtain ⟨b, s2⟩ := p
    rw [hy] at h
    simp only [Option.bind_some] at h
    split at h
    · obtain rfl := Option.some.inj h
      have := dsum_take hy
      omega
    · cases h
theorem nars_rep {f : RS → Option RS} (hf : NarS f) : ∀ n, NarS (rRep n f)
  | 0 => fun s s' h => by obtain rfl := Option.some.inj h; exact Nat.le_refl _
  | n + 1 => nars_bind hf (nars_rep hf n)
theorem nars_counted {f : RS → Option RS} (hf : NarS f) : NarS (rCounted f) := by
  intro s s' h
  unfold rCounted at h
  cases hx : rSigned 2 s with
  | none => rw [hx] at h; cases h
  | some p =>
    obtain ⟨n, s1⟩ := p
    rw [hx] at h
    simp only [Option.bind_some] at h
    split at h
    · have h1 := dsum_signed hx
      have h2 := nars_rep hf _ _ _ h
      have h3 := dsum_keep n s1
      omega
    · cases h
theorem nars_row {f : RS → Option RS} (hf : NarS f) : ∀ (k : Nat) (s : RS) (m : Nat) (s' : RS), rRow f k s = some (m, s') → dsum s' ≤ dsum s := by
  intro k
  induction k with
  | zero => intro s m s' h; cases h
  | succ k ih =>
    intro s m s' h
    rw [rRow] at h
    cases hS : s.S with
    | nil => rw [hS] at h; cases h
    | cons b r =>
      rw [hS] at h
      simp only at h
      split at h
      · simp only [Option.some.injEq, Prod.mk.injEq] at h
        obtain ⟨_, rfl⟩ := h
        unfold dsum
        rw [hS, List.length_cons]; show r.length + (s.T.map List.length).sum ≤ _; omega
      · cases hx : f s with
        | none => rw [hx] at h; cases h
        | some s1 =>
          rw [hx] at h
          cases hy : rRow f k s1 with
          | none => simp only [Option.bind_some, hy] at h; cases h
          | some p =>
            obtain ⟨m1, s2⟩ := p
            simp only [Option.bind_some, hy, Option.map_some, Option.some.injEq, Prod.mk.injEq] at h
            obtain ⟨_, rfl⟩ := h
            exact Nat.le_trans (ih s1 m1 s2 hy) (hf s s1 hx)
theorem nars_pairs : NarS rPairs := by
  intro s s' h
  unfold rPairs at h
  cases hx : rRow rText s.S.length s with
  | none => rw [hx] at h; cases h
  | some p =>
    obtain ⟨m, s1⟩ := p
    rw [hx] at h
    simp only [Option.bind_some] at h
    split at h
    · obtain rfl := Option.some.inj h
      exact (show dsum s1 ≤ dsum s from nars_row nars_text _ _ _ _ hx)
    · cases h
theorem nars_fields : NarS rFields := by
  intro s s' h
  unfold rFields at h
  cases hx : rRow rItem s.S.length (rKeep 0 s) with
  | none => rw [hx] at h; cases h
  | some p =>
    obtain ⟨m, s1⟩ := p
    rw [hx] at h
    obtain rfl := Option.some.inj h
    exact (show dsum s1 ≤ dsum (rKeep 0 s) from nars_row (f := rItem) (nars_bind nars_byte nars_text) _ _ _ _ hx)
theorem nars_field (c : UInt8) : NarS (rField c) := by
  intro s s' h
  unfold rField at h
  split at h
  · exact nars_text _ _ h
  split at h
  · exact nars_byte _ _ h
  split at h
  · exact nars_num 4 _ _ h
  split at h
  · exact nars_pairs _ _ h
  split at h
  · exact nars_fields _ _ h
  split at h
  · exact nars_counted (nars_num 2) _ _ h
  split at h
  · exact nars_counted (nars_num 4) _ _ h
  split at h
  · exact nars_counted nars_value _ _ h
  split at h
  · exact nars_counted (nars_bind nars_text nars_tail) _ _ h
  · obtain rfl := Option.some.inj h; exact Nat.le_refl _
theorem all_bounds : ∀ (l : Bs) (s s' : RS), rAll l s = some s' → dsum s' ≤ dsum s ∧ droom s' ≤ droom s
  | [], s, s', h => by obtain rfl := Option.some.inj h; exact ⟨Nat.le_refl _, Nat.le_refl _⟩
  | c :: l, s, s', h => by
    rw [rAll] at h
    cases hx : rField c s with
    | none => rw [hx] at h; cases h
    | some s1 =>
      rw [hx] at h
      obtain ⟨h1, h2⟩ := all_bounds l s1 s' h
      exact ⟨Nat.le_trans h1 (nars_field c _ _ hx), Nat.le_trans h2 (nar_field c _ _ hx)⟩
/-- The texts and numbers of a body are no more than it. -/
theorem read_bounds {back : Bool} {c : UInt8} {S : Bs} {T : List Bs} {N : List Int} (h : readL back c S = some (T, N)) : (T.map List.length).sum ≤ S.length ∧ T.length + N.length ≤ S.length := by
  unfold readL at h
  cases hl : layR back c S with
  | none => rw [hl] at h; cases h
  | some l =>
    rw [hl] at h
    simp only [Option.bind_some] at h
    cases hx : rAll l ⟨S, [], []⟩ with
    | none => rw [hx] at h; cases h
    | some s' =>
      rw [hx] at h
      simp only [Option.bind_some] at h
      unfold rDone at h
      split at h
      · simp only [Option.some.injEq, Prod.mk.injEq] at h
        obtain ⟨rfl, rfl⟩ := h
        obtain ⟨h1, h2⟩ := all_bounds l _ _ hx
        have e1 : dsum ⟨S, [], []⟩ = S.length := rfl
        have e2 : droom ⟨S, [], []⟩ = S.length := rfl
        rw [e1] at h1
        rw [e2] at h2
        unfold dsum at h1
        unfold droom at h2
        exact ⟨by omega, by omega⟩
      · cases h
theorem sum19 : ∀ T : List Bs, (T.map fun t => t.length + 19).sum = (T.map List.length).sum + 19 * T.length
  | [] => rfl
  | t :: T => by
    have := sum19 T
    simp only [List.map_cons, List.sum_cons, List.length_cons]
    omega
theorem read_room {back : Bool} {c : UInt8} {S : Bs} {T : List Bs} {N : List Int} (h : readL back c S = some (T, N)) (hS : S.length ≤ 10001) : room ⟨T, N, []⟩ ≤ 800000 := by
  obtain ⟨h1, h2⟩ := read_bounds h
  have h3 := sum19 T
  unfold room
  show 0 + ((T.map fun t => t.length + 19).sum + 4 * N.length) ≤ _
  omega
/-- Behind a whole body there is no room for a byte. -/
theorem read_longer {back : Bool} {c : UInt8} {T : List Bs} {N : List Int} {B : Bs} (h : written back c T N = some B) : readL back c (B ++ [0]) = none := by
  have hr := read_of_written h
  unfold readL at hr
  cases hl : layR back c B with
  | none => rw [hl] at hr; cases hr
  | some l =>
    rw [hl] at hr
    simp only [Option.bind_some] at hr
    cases hx : rAll l ⟨B, [], []⟩ with
    | none => rw [hx] at hr; cases hr
    | some s' =>
      rw [hx] at hr
      simp only [Option.bind_some] at hr
      unfold rDone at hr
      split at hr
      · rename_i hd
        -- the same layout
        have hL : layR back c (B ++ [0]) = some l := by
          unfold layR at hl ⊢
          by_cases hb : back = false ∧ c = 0
          · obtain ⟨rfl, rfl⟩ := hb
            have h4 : 4 ≤ B.length := by
              by_cases hc : isCancel B = true
              · exact (of_decide_eq_true hc).1
              · rw [if_neg (fun h => hc h.2.2), lay_bare] at hl
                obtain rfl := Option.some.inj hl
                have h1 : (rLong ⟨B, [], []⟩).bind (rAll [112]) = some s' := hx
                cases hy : rLong ⟨B, [], []⟩ with
                | none => rw [hy] at h1; cases h1
                | some s1 =>
                  unfold rLong at hy
                  cases hz : rSigned 4 ⟨B, [], []⟩ with
                  | none => rw [hz] at hy; cases hy
                  | some p =>
                    obtain ⟨n, s2⟩ := p
                    have := (dsigned_len hz)
                    have h5 : (⟨B, [], []⟩ : RS).S.length = B.length := rfl
                    omega
            have hcc : isCancel (B ++ [0]) = isCancel B := by
              unfold isCancel
              rw [List.take_append_of_le_length h4, List.length_append, List.length_singleton]
              simp [h4, show 4 ≤ B.length + 1 by omega]
            rw [hcc]; exact hl
          · rw [if_neg (fun h => hb ⟨h.1, h.2.1⟩)] at hl ⊢
            exact hl
        obtain ⟨t, n, b, e1, e2, e3, e4⟩ := bwd_all l _ _ hx
        have hb : B = b := by rw [show B = b ++ s'.S from e1, hd, List.append_nil]
        -- read what is written, with the byte behind
        have hw := e4 [] [] []
        rw [List.append_nil, List.append_nil] at hw
        obtain ⟨t', n', b', g1, g2, g3, g4⟩ := fwd_all l _ _ hw
        have hbb : b = b' := by
          have : [] ++ b = ([] : Bs) ++ b' := g3
          simpa using this
        have := g4 [0] [] []
        unfold readL
        rw [hL]
        simp only [Option.bind_some]
        rw [hb, hbb, this]
        simp [rDone]
      · cases hr
where
  dsigned_len {k : Nat} {n : Int} {s s' : RS} (h : rSigned k s = some (n, s')) : k ≤ s.S.length := by
    have := (signed_room h).1
    omega
end Go.Proofs.YtmofnkinclckoaaGreatDoor
