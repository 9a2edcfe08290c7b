/- Contracts and mathematics: MW, MNum. -/
import Derived.Test.YtmofnkinclckoaaGreatDoorZ1
import Derived.Test.YtmofnkinclckoaaGreatDoorShelf
import Derived.Lib.AppendStr
import Derived.Lib.BufferWrite
import Derived.Shelf.Strings.Prefix
import Derived.Deep.RegionHeld3
import Derived.Deep.LoopGhost
import Derived.Deep.RegionLaw
import Derived.Deep.RegionWith
import Derived.Deep.DeepCutAuto
namespace Go.Proofs.YtmofnkinclckoaaGreatDoor
open Go.RowKit Go.Lib Go.WideShapes


/-- A row of texts that lies in w0, of which v is a slice. -/
def TextsIn (w0 : World) (v : Value) (T : List Bs) : Prop := ∃ a n c, v = .slice a n c ∧ T.length = n ∧ n ≤ c ∧ c ≤ 9223372036854775807 ∧
  (T = [] ∨ ∃ g off, a = some ⟨g, off, none⟩ ∧ g < w0.heap.size ∧ ∀ (i : Nat) (t : Bs), T[i]? = some t → w0.cell? ⟨g, off + i, none⟩ = some (.string ⟨t.toArray⟩))
/-- A row of numbers. -/
def NumsIn (w0 : World) (v : Value) (N : List Int) : Prop := ∃ a n c, v = .slice a n c ∧ N.length = n ∧ n ≤ c ∧ c ≤ 9223372036854775807 ∧
  (N = [] ∨ ∃ g off, a = some ⟨g, off, none⟩ ∧ g < w0.heap.size ∧ ∀ (i : Nat) (t : Int), N[i]? = some t → w0.cell? ⟨g, off + i, none⟩ = some (.int .i64 t))
def bcells (B : Bs) : List Value := B.map fun b => .int .u8 (b.toNat : Nat)
theorem bcells_length (B : Bs) : (bcells B).length = B.length := by simp [bcells]
theorem bcells_append (a b : Bs) : bcells (a ++ b) = bcells a ++ bcells b := by simp [bcells]

/-- A writer that was made behind w0. -/
structure WAt (w0 w : World) (s : WS) (tv nv bv : Value) : Prop where
  below : Below w0.heap.size w0 w
  lt : w0.heap.size < w.heap.size
  c0 : w.cell? ⟨w0.heap.size, 0, none⟩ = some tv
  c1 : w.cell? ⟨w0.heap.size, 1, none⟩ = some nv
  c2 : w.cell? ⟨w0.heap.size, 2, none⟩ = some bv
  f0 : w.frozen? ⟨w0.heap.size, 0, none⟩ = false
  f1 : w.frozen? ⟨w0.heap.size, 1, none⟩ = false
  f2 : w.frozen? ⟨w0.heap.size, 2, none⟩ = false
  texts : TextsIn w0 tv s.T
  nums : NumsIn w0 nv s.N
  body : w.ownsRow (w0.heap.size + 1) 5 1 bv s.B.length (bcells s.B)
def IsW (w0 w : World) (s : WS) : Prop := ∃ tv nv bv, WAt w0 w s tv nv bv

def errV : Value := .iface 40 (.int .i64 2)
def Lost (w0 : World) (e : Ending) (w' : World) : Prop := e = .panicked [{ v := errV, recovered := false }] ∧ Below w0.heap.size w0 w'
/-- What an operation of a writer leaves. -/
def WOut (w0 : World) (r : Option WS) (e : Ending) (w' : World) : Prop := (∃ s', r = some s' ∧ e = .returned (.tuple #[]) ∧ IsW w0 w' s') ∨ (r = none ∧ Lost w0 e w')
def WOutN (w0 : World) (r : Option (Int × WS)) (e : Ending) (w' : World) : Prop := (∃ n s', r = some (n, s') ∧ e = .returned (.int .i64 n) ∧ IsW w0 w' s') ∨ (r = none ∧ Lost w0 e w')

theorem demand_ok (w : World) : Calls Tryz.prog 35 #[.bool true] w fun e w' => e = .returned (.tuple #[]) ∧ w = w' := by
  go_enter Tryz.func35, Tryz.ntmps35
  go_wp2
  go_end0
  exact ⟨rfl, rfl⟩
theorem demand_no (w : World) : Calls Tryz.prog 35 #[.bool false] w fun e w' => e = .panicked [{ v := errV, recovered := false }] ∧ w = w' := by
  unfold errV
  go_enter Tryz.func35, Tryz.ntmps35
  go_wp2
  exact ⟨rfl, rfl, rfl⟩

theorem WAt.room_blocks {w0 w : World} {s : WS} {tv nv bv : Value} (h : WAt w0 w s tv nv bv) : ∃ a c, bv = .slice a s.B.length c := ownsRow_form h.body
theorem own_other {w : World} {p i n : Nat} {e : TypeId} {v x : Value} {xs : List Value} (h : w.ownsRow (p + 1) e 1 v n xs) : (w.setCell ⟨p, i, none⟩ x).ownsRow (p + 1) e 1 v n xs := by
  refine h.kept (row := some p) ?_ ?_
  · exact Lib.grownBy_setCell w p i x
  · rcases h.2 with ⟨hv, _⟩ | ⟨g, c, cur, hv, hb, _⟩
    · left; rw [hv]; rfl
    · right
      rw [hv]
      intro e
      have : g = p := Option.some.inj e
      omega
/-- A cell of the writer's own written. -/
theorem WAt.put0 {w0 w : World} {s : WS} {tv nv bv : Value} (h : WAt w0 w s tv nv bv) {T : List Bs} {tv' : Value} (hT : TextsIn w0 tv' T) : WAt w0 (w.setCell ⟨w0.heap.size, 0, none⟩ tv') { s with T := T } tv' nv bv := by
  have n1 : (⟨w0.heap.size, 0, none⟩ : Addr) ≠ ⟨w0.heap.size, 1, none⟩ := by intro e; injection e with _ e; cases e
  have n2 : (⟨w0.heap.size, 0, none⟩ : Addr) ≠ ⟨w0.heap.size, 2, none⟩ := by intro e; injection e with _ e; cases e
  exact ⟨h.below.setCell (Nat.le_refl _) _, by rw [World.size_setCell]; exact h.lt, World.cell?_setCell_same _ _ _ h.c0, (World.cell?_setCell_other _ _ _ _ n1).trans h.c1, (World.cell?_setCell_other _ _ _ _ n2).trans h.c2, by rw [World.frozen?_setCell]; exact h.f0, by rw [World.frozen?_setCell]; exact h.f1, by rw [World.frozen?_setCell]; exact h.f2, hT, h.nums, own_other h.body⟩
theorem WAt.put1 {w0 w : World} {s : WS} {tv nv bv : Value} (h : WAt w0 w s tv nv bv) {N : List Int} {nv' : Value} (hN : NumsIn w0 nv' N) : WAt w0 (w.setCell ⟨w0.heap.size, 1, none⟩ nv') { s with N := N } tv nv' bv := by
  have n0 : (⟨w0.heap.size, 1, none⟩ : Addr) ≠ ⟨w0.heap.size, 0, none⟩ := by intro e; injection e with _ e; cases e
  have n2 : (⟨w0.heap.size, 1, none⟩ : Addr) ≠ ⟨w0.heap.size, 2, none⟩ := by intro e; injection e with _ e; cases e
  exact ⟨h.below.setCell (Nat.le_refl _) _, by rw [World.size_setCell]; exact h.lt, (World.cell?_setCell_other _ _ _ _ n0).trans h.c0, World.cell?_setCell_same _ _ _ h.c1, (World.cell?_setCell_other _ _ _ _ n2).trans h.c2, by rw [World.frozen?_setCell]; exact h.f0, by rw [World.frozen?_setCell]; exact h.f1, by rw [World.frozen?_setCell]; exact h.f2, h.texts, hN, own_other h.body⟩
/-- The body, another row of the writer's own: the world grew, and the cell was written. -/
theorem WAt.put2 {w0 w w1 : World} {s : WS} {tv nv bv bv' : Value} {B : Bs} (h : WAt w0 w s tv nv bv) (hB : Below (w0.heap.size + 1) w w1) (hb : w1.ownsRow (w0.heap.size + 1) 5 1 bv' B.length (bcells B)) : WAt w0 (w1.setCell ⟨w0.heap.size, 2, none⟩ bv') { s with B := B } tv nv bv' := by
  have n0 : (⟨w0.heap.size, 2, none⟩ : Addr) ≠ ⟨w0.heap.size, 0, none⟩ := by intro e; injection e with _ e; cases e
  have n1 : (⟨w0.heap.size, 2, none⟩ : Addr) ≠ ⟨w0.heap.size, 1, none⟩ := by intro e; injection e with _ e; cases e
  have e0 := hB.cell (p := ⟨w0.heap.size, 0, none⟩) (Nat.lt_succ_self _)
  have e1 := hB.cell (p := ⟨w0.heap.size, 1, none⟩) (Nat.lt_succ_self _)
  have e2 := hB.cell (p := ⟨w0.heap.size, 2, none⟩) (Nat.lt_succ_self _)
  have g0 := hB.frozen (p := ⟨w0.heap.size, 0, none⟩) (Nat.lt_succ_self _)
  have g1 := hB.frozen (p := ⟨w0.heap.size, 1, none⟩) (Nat.lt_succ_self _)
  have g2 := hB.frozen (p := ⟨w0.heap.size, 2, none⟩) (Nat.lt_succ_self _)
  exact ⟨(h.below.trans (hB.mono (Nat.le_succ _))).setCell (Nat.le_refl _) _, by rw [World.size_setCell]; exact Nat.lt_of_lt_of_le h.lt hB.size, (World.cell?_setCell_other _ _ _ _ n0).trans (e0.trans h.c0), (World.cell?_setCell_other _ _ _ _ n1).trans (e1.trans h.c1), World.cell?_setCell_same _ _ _ (e2.trans h.c2), by rw [World.frozen?_setCell]; exact g0.trans h.f0, by rw [World.frozen?_setCell]; exact g1.trans h.f1, by rw [World.frozen?_setCell]; exact g2.trans h.f2, h.texts, h.nums, own_other hb⟩

theorem WAt.grew {w0 w w1 : World} {s : WS} {tv nv bv : Value} (h : WAt w0 w s tv nv bv) (hg : w.grownBy w1 bv.ownBlock) : Below (w0.heap.size + 1) w w1 := below_grown (Below.refl _ w) h.lt hg (fun q hq => (h.body.lt q hq).1)
theorem WAt.grewA {w0 w w1 : World} {s : WS} {tv nv bv : Value} {o : Obj} (h : WAt w0 w s tv nv bv) (hg : (w.alloc o).grownBy w1 bv.ownBlock) : Below (w0.heap.size + 1) w w1 := below_grown ((Below.refl (w0.heap.size + 1) w).alloc h.lt _) (by rw [World.size_alloc]; exact Nat.le_succ_of_le h.lt) hg (fun q hq => (h.body.lt q hq).1)
theorem WAt.after {w0 w w1 : World} {s : WS} {tv nv bv : Value} (h : WAt w0 w s tv nv bv) (hB : Below (w0.heap.size + 1) w w1) : w1.cell? ⟨w0.heap.size, 2, none⟩ = some bv ∧ w1.frozen? ⟨w0.heap.size, 2, none⟩ = false ∧ w0.heap.size < w1.heap.size :=
  ⟨(hB.cell (p := ⟨w0.heap.size, 2, none⟩) (Nat.lt_succ_self _)).trans h.c2, (hB.frozen (p := ⟨w0.heap.size, 2, none⟩) (Nat.lt_succ_self _)).trans h.f2, Nat.lt_of_lt_of_le h.lt hB.size⟩
/-- The row behind its first text. -/
theorem TextsIn.tail {w0 : World} {a : Option Addr} {n c : Nat} {t : Bs} {ts : List Bs} (h : TextsIn w0 (.slice a n c) (t :: ts)) : ∃ g off, a = some ⟨g, off, none⟩ ∧ g < w0.heap.size ∧ w0.cell? ⟨g, off, none⟩ = some (.string ⟨t.toArray⟩) ∧ 1 ≤ n ∧ n ≤ c ∧ c ≤ 9223372036854775807 ∧ ts.length = n - 1 ∧ (1 < c → TextsIn w0 (.slice (some ⟨g, off + 1, none⟩) (n - 1) (c - 1)) ts) ∧ (c = 1 → ∀ a', TextsIn w0 (.slice a' 0 0) ts) := by
  obtain ⟨a', n', c', hv, hl, hn, hc, hr⟩ := h
  simp only [Value.slice.injEq] at hv
  obtain ⟨rfl, rfl, rfl⟩ := hv
  rcases hr with hr | ⟨g, off, rfl, hg, hcell⟩
  · cases hr
  · rw [List.length_cons] at hl
    refine ⟨g, off, rfl, hg, hcell 0 t rfl, by omega, hn, hc, by omega, fun _ => ⟨_, _, _, rfl, by omega, by omega, by omega, .inr ⟨g, off + 1, rfl, hg, fun i x hx => ?_⟩⟩, fun h1 a' => ⟨_, _, _, rfl, by omega, Nat.le_refl _, by omega, .inl (List.length_eq_zero_iff.1 (by omega))⟩⟩
    have := hcell (i + 1) x hx
    rwa [show off + (i + 1) = off + 1 + i by omega] at this
theorem NumsIn.tail {w0 : World} {a : Option Addr} {n c : Nat} {t : Int} {ts : List Int} (h : NumsIn w0 (.slice a n c) (t :: ts)) : ∃ g off, a = some ⟨g, off, none⟩ ∧ g < w0.heap.size ∧ w0.cell? ⟨g, off, none⟩ = some (.int .i64 t) ∧ 1 ≤ n ∧ n ≤ c ∧ c ≤ 9223372036854775807 ∧ ts.length = n - 1 ∧ (1 < c → NumsIn w0 (.slice (some ⟨g, off + 1, none⟩) (n - 1) (c - 1)) ts) ∧ (c = 1 → ∀ a', NumsIn w0 (.slice a' 0 0) ts) := by
  obtain ⟨a', n', c', hv, hl, hn, hc, hr⟩ := h
  simp only [Value.slice.injEq] at hv
  obtain ⟨rfl, rfl, rfl⟩ := hv
  rcases hr with hr | ⟨g, off, rfl, hg, hcell⟩
  · cases hr
  · rw [List.length_cons] at hl
    refine ⟨g, off, rfl, hg, hcell 0 t rfl, by omega, hn, hc, by omega, fun _ => ⟨_, _, _, rfl, by omega, by omega, by omega, .inr ⟨g, off + 1, rfl, hg, fun i x hx => ?_⟩⟩, fun h1 a' => ⟨_, _, _, rfl, by omega, Nat.le_refl _, by omega, .inl (List.length_eq_zero_iff.1 (by omega))⟩⟩
    have := hcell (i + 1) x hx
    rwa [show off + (i + 1) = off + 1 + i by omega] at this

/-- What taking a text, or a number, leaves. -/
def NextT (w0 : World) (s : WS) (e : Ending) (w' : World) : Prop := (∃ t ts, s.T = t :: ts ∧ e = .returned (.string ⟨t.toArray⟩) ∧ IsW w0 w' { s with T := ts }) ∨ (s.T = [] ∧ Lost w0 e w')

set_option maxRecDepth 100000 in
set_option maxHeartbeats 4000000 in
theorem nexttext_any (w0 w : World) (s : WS) (h : IsW w0 w s) :
    Calls Tryz.prog 84 #[.pointer (some ⟨w0.heap.size, 0, none⟩)] w (NextT w0 s) := by
  obtain ⟨tv, nv, bv, hW⟩ := h
  obtain ⟨a, n, c, rfl, hl, hn, hc, _⟩ := hW.texts
  have c0 := hW.c0
  have f0 := hW.f0
  have HW := Lib.hid hW
  obtain ⟨T, N, B⟩ := s
  clear hW
  cases T with
  | nil =>
    obtain rfl : 0 = n := hl
    go_enter Tryz.func84, Tryz.ntmps84
    go_wp2_with fail
    refine (demand_no _).mono ?_; rintro e w1 ⟨rfl, rfl⟩
    go_wp2_with fail
    exact ⟨rfl, .inr ⟨rfl, rfl, HW.out.below⟩⟩
  | cons t ts =>
    obtain ⟨g, off, rfl, hg, hcell, h1, _, _, hts, hA, hB⟩ := HW.out.texts.tail
    have d0 := (HW.out.below.cell (p := ⟨g, off, none⟩) hg).trans hcell
    have h1' : (1 : Int) ≤ n := by omega
    have hn' : (n : Int) ≤ c := by omega
    have h0' : 0 < n := by omega
    have HA := Lib.hid hA; have HB := Lib.hid hB
    clear hl hA hB hcell
    by_cases hc1 : c = 1
    · subst hc1
      obtain rfl : n = 1 := by omega
      have HP := Lib.hid (HW.out.put0 (HB.out rfl (some ⟨g, off, none⟩)))
      go_enter Tryz.func84, Tryz.ntmps84
      go_wp2_with fail
      refine (demand_ok _).mono ?_; rintro e w1 ⟨rfl, rfl⟩
      go_wp2_with fail
      go_ret
      exact .inl ⟨t, ts, rfl, rfl, _, _, _, HP.out⟩
    · have hc2 : (2 : Int) ≤ c := by omega
      have HP := Lib.hid (HW.out.put0 (HA.out (by omega)))
      go_enter Tryz.func84, Tryz.ntmps84
      go_wp2_with fail
      refine (demand_ok _).mono ?_; rintro e w1 ⟨rfl, rfl⟩
      go_wp2_with fail
      go_ret
      exact .inl ⟨t, ts, rfl, rfl, _, _, _, HP.out⟩

set_option maxRecDepth 100000 in
set_option maxHeartbeats 4000000 in
theorem nextnum_any (w0 w : World) (s : WS) (l m : Int) (h : IsW w0 w s) :
    Calls Tryz.prog 86 #[.pointer (some ⟨w0.heap.size, 0, none⟩), .int .i64 l, .int .i64 m] w (WOutN w0 (wNum l m s)) := by
  obtain ⟨tv, nv, bv, hW⟩ := h
  obtain ⟨a, n, c, rfl, hl, hn, hc, _⟩ := hW.nums
  have c1 := hW.c1
  have f1 := hW.f1
  have HW := Lib.hid hW
  obtain ⟨T, N, B⟩ := s
  clear hW
  cases N with
  | nil =>
    obtain rfl : 0 = n := hl
    rw [show wNum l m ⟨T, [], B⟩ = none from rfl]
    go_enter Tryz.func86, Tryz.ntmps86
    go_wp2_with fail
    refine (demand_no _).mono ?_; rintro e w1 ⟨rfl, rfl⟩
    go_wp2_with fail
    exact ⟨rfl, .inr ⟨rfl, rfl, HW.out.below⟩⟩
  | cons t ts =>
    obtain ⟨g, off, rfl, hg, hcell, h1, _, _, hts, hA, hB⟩ := HW.out.nums.tail
    have d0 := (HW.out.below.cell (p := ⟨g, off, none⟩) hg).trans hcell
    have h1' : (1 : Int) ≤ n := by omega
    have hn' : (n : Int) ≤ c := by omega
    have h0' : 0 < n := by omega
    have HA := Lib.hid hA; have HB := Lib.hid hB
    clear hl hA hB hcell
    by_cases hr : l ≤ t ∧ t ≤ m
    · rw [show wNum l m ⟨T, t :: ts, B⟩ = some (t, ⟨T, ts, B⟩) by unfold wNum; simp only; rw [if_pos hr]]
      obtain ⟨hr1, hr2⟩ := hr
      by_cases hc1 : c = 1
      · subst hc1
        obtain rfl : n = 1 := by omega
        have HP := Lib.hid (HW.out.put1 (HB.out rfl (some ⟨g, off, none⟩)))
        go_enter Tryz.func86, Tryz.ntmps86
        go_wp2_with fail
        refine (demand_ok _).mono ?_; rintro e w1 ⟨rfl, rfl⟩
        go_wp2_with fail
        refine (demand_ok _).mono ?_; rintro e w1 ⟨rfl, rfl⟩
        go_wp2_with fail
        go_ret
        exact .inl ⟨t, _, rfl, rfl, _, _, _, HP.out⟩
      · have hc2 : (2 : Int) ≤ c := by omega
        have HP := Lib.hid (HW.out.put1 (HA.out (by omega)))
        go_enter Tryz.func86, Tryz.ntmps86
        go_wp2_with fail
        refine (demand_ok _).mono ?_; rintro e w1 ⟨rfl, rfl⟩
        go_wp2_with fail
        refine (demand_ok _).mono ?_; rintro e w1 ⟨rfl, rfl⟩
        go_wp2_with fail
        go_ret
        exact .inl ⟨t, _, rfl, rfl, _, _, _, HP.out⟩
    · rw [show wNum l m ⟨T, t :: ts, B⟩ = none by unfold wNum; simp only; rw [if_neg hr]]
      by_cases hr1 : l ≤ t
      · have hr2 : m < t := by omega
        have hr3 : decide (t ≤ m) = false := by simp; omega
        clear hr
        go_enter Tryz.func86, Tryz.ntmps86
        go_wp2_with fail
        refine (demand_ok _).mono ?_; rintro e w1 ⟨rfl, rfl⟩
        go_wp2_with fail
        refine (demand_no _).mono ?_; rintro e w1 ⟨rfl, rfl⟩
        go_wp2_with fail
        exact ⟨rfl, .inr ⟨rfl, rfl, HW.out.below⟩⟩
      · have hr2 : t < l := by omega
        clear hr hr1
        go_enter Tryz.func86, Tryz.ntmps86
        go_wp2_with fail
        refine (demand_ok _).mono ?_; rintro e w1 ⟨rfl, rfl⟩
        go_wp2_with fail
        refine (demand_no _).mono ?_; rintro e w1 ⟨rfl, rfl⟩
        go_wp2_with fail
        exact ⟨rfl, .inr ⟨rfl, rfl, HW.out.below⟩⟩

theorem info_u8 : (Tryz.prog.info? 5).map (fun i => (i.zero, i.size, i.bytes)) = some (some (.int .u8 0), 1, 1) := by kernel_rfl

set_option maxRecDepth 100000 in
set_option maxHeartbeats 4000000 in
theorem zero_any (w0 w : World) (s : WS) (hr : s.B.length ≤ 1000000) (h : IsW w0 w s) :
    Calls Tryz.prog 85 #[.pointer (some ⟨w0.heap.size, 0, none⟩)] w (WOut w0 (some (wZero s))) := by
  obtain ⟨i0, hi, y0, y1, y2⟩ := info_parts info_u8
  obtain ⟨tv, nv, bv, hW⟩ := h
  obtain ⟨a, c, rfl⟩ := hW.room_blocks
  have c2 := hW.c2
  have f2 := hW.f2
  have hz := hW.lt
  have HW := Lib.hid hW
  clear hW
  go_enter Tryz.func85, Tryz.ntmps85
  go_wp2_with (at_builtin; refine wpList_append_at _ rfl (.tmp 6) (.tmp 7) 65 rfl (w0.heap.size + 1) 5 i0 (.int .u8 0) 1 1 Tryz.underlying65 hi y0 y1 y2 rfl (by decide) (.slice a s.B.length c) s.B.length (bcells s.B) rfl (HW.out.body.alloc _) ⟨w.heap.size, 0, none⟩ 1 1 [.int .u8 0] rfl rfl (fun j u h => by rw [Go.WideShapes.add_plain, Nat.zero_add, ← h]; exact (World.cell?_alloc_new w _ _ j).trans (by simp)) (by intro u hu; simp at hu; rcases hu with rfl; rfl) (by unfold maxLen; omega) (by omega) (by simp; omega) ?_)
  intro v' w1 hO hg _
  obtain ⟨a', c', rfl⟩ := ownsRow_form hO
  have HB := Lib.hid (HW.out.grewA hg)
  obtain ⟨e2, g2, hz1⟩ := HW.out.after HB.out
  have HP := Lib.hid (HW.out.put2 (B := s.B ++ [0]) HB.out (by rw [bcells_append, List.length_append]; exact hO))
  clear hO hg c2 f2
  go_wp2_with fail
  go_end0
  exact .inl ⟨_, rfl, rfl, _, _, _, HP.out⟩

/-- An append whose outcome is known. -/
theorem wpList_append_eq {P : Program} {w : World} {ops : Array Oper} {rest : List Oper} {o : Oper} {a : Act} {Q : Exit → Act → World → Prop} (hgd : o.guard = none) (s x : Operand) (t u : TypeId)
    (ho : o.op = .call { callee := .builtin .append, args := #[s, x], argTypes := #[t, u] }) (vs vx : Value) (hs : a.eval s = vs) (hx : a.eval x = vx) (v' : Value) (w' : World)
    (hrun : (Builtin.append_ #[t, u] o.type #[vs, vx]).run P w = .ok v' w') (h : wpList P ops Q rest (a.put o.dst v') w') : wpList P ops Q (o :: rest) a w :=
  wpList_plain hgd fun _ hK => by
    unfold Oper.wp execOp
    simp only [ho, resolve, invoke, builtin, Sem.run_bind, Sem.run_pure, Result.andThen_ok, List.map_toArray, List.map_cons, List.map_nil, hs, hx, hrun]
    exact hK _ _ h

set_option maxRecDepth 100000 in
set_option maxHeartbeats 4000000 in
/-- A text put behind the body, as it is. -/
theorem put_text {w0 w : World} {s : WS} {tv nv : Value} {a : Option Addr} {c : Nat} (X : ByteArray) (hr : s.B.length ≤ 1000000) (hx : X.size ≤ 1000000) (h : WAt w0 w s tv nv (.slice a s.B.length c)) :
    ∃ a' c' w1, (Builtin.append_ #[65, 9] 65 #[.slice a s.B.length c, .string X]).run Tryz.prog w = .ok (.slice a' (s.B.length + X.size) c') w1 ∧ w1.cell? ⟨w0.heap.size, 2, none⟩ = some (.slice a s.B.length c) ∧ w1.frozen? ⟨w0.heap.size, 2, none⟩ = false ∧ w0.heap.size < w1.heap.size ∧ WAt w0 (w1.setCell ⟨w0.heap.size, 2, none⟩ (.slice a' (s.B.length + X.size) c')) { s with B := s.B ++ bytes X } tv nv (.slice a' (s.B.length + X.size) c') := by
  obtain ⟨i0, hi, y0, y1, y2⟩ := info_parts info_u8
  obtain ⟨v', w1, hrun, hO, hg, _⟩ := run_append_own_string (P := Tryz.prog) w (w0.heap.size + 1) 65 9 65 5 i0 Tryz.underlying65 Tryz.underlying9 hi y0 y1 y2 _ _ _ h.body X (by unfold maxLen; omega) (by omega) h.lt
  obtain ⟨a', c', rfl⟩ := ownsRow_form hO
  obtain ⟨e2, g2, hz1⟩ := h.after (h.grew hg)
  refine ⟨a', c', w1, hrun, e2, g2, hz1, h.put2 (B := s.B ++ bytes X) (h.grew hg) ?_⟩
  rw [bcells_append, List.length_append, blen]
  exact hO
end Go.Proofs.YtmofnkinclckoaaGreatDoor

namespace Go.Proofs.YtmofnkinclckoaaGreatDoor
open Go.RowKit Go.Lib Go.WideShapes

theorem WAt.grewD {w0 w w1 : World} {s : WS} {tv nv bv : Value} {o : Obj} (h : WAt w0 w s tv nv bv) (hg : (w.alloc o).drew.grownBy w1 bv.ownBlock) : Below (w0.heap.size + 1) w w1 :=
  below_grown ((Below.refl (w0.heap.size + 1) w).alloc h.lt _).drew (by show _ ≤ (w.alloc o).heap.size; rw [World.size_alloc]; exact Nat.le_succ_of_le h.lt) hg (fun q hq => (h.body.lt q hq).1)
theorem byte_wrap (n : Int) (i : Nat) : IntKind.u8.wrap (n / (256 ^ i : Nat)) = ((byteAt n i).toNat : Nat) := by
  unfold byteAt
  rw [UInt8.toNat_ofNat']
  have h1 : 0 ≤ n / (256 ^ i : Nat) % 256 := Int.emod_nonneg _ (by decide)
  have h2 : n / (256 ^ i : Nat) % 256 < 256 := Int.emod_lt_of_pos _ (by decide)
  have e : IntKind.u8.wrap (n / (256 ^ i : Nat)) = n / (256 ^ i : Nat) % 256 := by
    simp [IntKind.wrap, IntKind.bits, IntKind.signed]
  rw [e]
  omega

set_option maxRecDepth 100000 in
set_option maxHeartbeats 8000000 in
theorem number_anyM (w0 w : World) (s : WS) (l m : Int) (k : Nat) (hk : 1 ≤ k ∧ k ≤ 4) (hl : -2147483648 ≤ l) (hm : m ≤ 2147483647) (hr : s.B.length ≤ 900000) (h : IsW w0 w s) :
    Calls Tryz.prog 66 #[.pointer (some ⟨w0.heap.size, 0, none⟩), .int .i64 l, .int .i64 m, .int .i64 k] w (WOutN w0 (wNumber l m k s)) := by
  obtain ⟨i0, hi, y0, y1, y2⟩ := info_parts info_u8
  have HN := Lib.hid (nextnum_any w0 w s l m h)
  obtain ⟨hk1, hk4⟩ := hk
  clear h
  unfold wNumber
  generalize hx : wNum l m s = r at HN ⊢
  have HX := Lib.hid hx
  clear hx
  go_enter Tryz.func66, Tryz.ntmps66
  go_wp2_with fail
  refine HN.out.mono ?_; rintro e w1 (⟨n, s1, rfl, rfl, hW⟩ | ⟨rfl, rfl, hB⟩)
  · have HW := Lib.hid hW
    have hs1 := room_num HX.out
    have hB1 : s1.B.length ≤ 900000 := by rw [hs1.1]; exact hr
    have hn : l ≤ n ∧ n ≤ m := by
      have := HX.out
      unfold wNum at this
      cases hN : s.N with
      | nil => rw [hN] at this; cases this
      | cons x ns =>
        rw [hN] at this
        simp only at this
        split at this
        · rename_i hc
          have e := (Prod.mk.inj (Option.some.inj this)).1
          subst e; exact hc
        · cases this
    obtain ⟨hn1, hn2⟩ := hn
    have hn3 : -2147483648 ≤ n := by omega
    have hn4 : n ≤ 2147483647 := by omega
    clear hW hs1 HX HN hn1 hn2 hl hm
    obtain ⟨T1, N1, B1⟩ := s1
    have hB1 : B1.length ≤ 900000 := hB1
    go_wp2_with fail
    go_loopg [10] k (fun g i wr => ∃ (j : Nat) (P : Bs), i = .int .i64 ((j : Int) - 1) ∧ j ≤ k ∧ g = j ∧ P ++ be j n = be k n ∧ IsW w0 wr ⟨T1, N1, B1 ++ P⟩)
    case atStart => exact ⟨k, [], rfl, Nat.le_refl _, rfl, rfl, by rw [List.append_nil]; exact HW.out⟩
    case round =>
      obtain ⟨j, P, rfl, hj, hg, hP, hWP⟩ := hrel
      have HP := Lib.hid hP; have HG := Lib.hid hg
      obtain ⟨tv, nv, bv, hWP⟩ := hWP
      obtain ⟨a, c, rfl⟩ := hWP.room_blocks
      have hPl : P.length ≤ 4 := by have := congrArg List.length hP; rw [List.length_append, be_length, be_length] at this; omega
      obtain ⟨BL, hBL⟩ : ∃ BL : Nat, BL = (B1 ++ P).length := ⟨_, rfl⟩
      have hBl : BL ≤ 900004 := by rw [hBL, List.length_append]; omega
      have HBL := Lib.hid hBL
      rw [show (WS.mk T1 N1 (B1 ++ P)).B.length = BL from hBL.symm] at hWP
      have HBODY := Lib.hid (show wr.ownsRow (w0.heap.size + 1) 5 1 (.slice a BL c) BL (bcells (B1 ++ P)) by have := hWP.body; rw [show (WS.mk T1 N1 (B1 ++ P)).B.length = BL from hBL.symm] at this; exact this)
      have c2 := hWP.c2
      have f2 := hWP.f2
      have hz := hWP.lt
      have HWP := Lib.hid hWP
      clear hP hg hWP hBL
      by_cases h0 : 1 ≤ j
      · rcases (by omega : j = 1 ∨ j = 2 ∨ j = 3 ∨ j = 4) with rfl | rfl | rfl | rfl
        · have hw : IntKind.i64.wrap 0 = 0 := rfl
          have HV := Lib.hid (show IntKind.u8.wrap n = ((byteAt n 0).toNat : Nat) from by have := byte_wrap n 0; rw [show ((256 ^ 0 : Nat) : Int) = 1 from rfl, Int.ediv_one] at this; exact this)
          go_upto_region 5 with (fail)
          go_region_law (refine step_append_own rfl (.tmp 25) (.tmp 31) 65 rfl (w0.heap.size + 1) 5 i0 (.int .u8 0) 1 1 Tryz.underlying65 hi y0 y1 y2 rfl (by decide) (.slice a BL c) BL (bcells (B1 ++ P)) (by simp [Act.eval]) (HBODY.out.drew.alloc _) ⟨wr.heap.size, 0, none⟩ 1 1 [.int .u8 (IntKind.u8.wrap n)] (by simp [Act.eval]) rfl ?c1 ?c2 ?c3 ?c4 ?c5 ?_; (case c1 => (intro j u h; rw [Go.WideShapes.add_plain, Nat.zero_add, ← h]; exact (World.cell?_alloc_new wr _ _ j).trans (by simp))); (case c2 => (intro u hu; simp at hu; rcases hu with rfl; rfl)); (case c3 => (unfold maxLen; omega)); (case c4 => omega); (case c5 => (first | omega | (simp; omega))); intro v' w5 hO5 hg5; obtain ⟨a', c', rfl⟩ := ownsRow_form hO5; have HB5 := Lib.hid (HWP.out.grewD hg5); obtain ⟨e2, g2, hz1⟩ := HWP.out.after HB5.out; rw [HV.out] at hO5; have HP5 := Lib.hid (HWP.out.put2 (B := (B1 ++ P) ++ [byteAt n 0]) HB5.out (by rw [bcells_append, List.length_append, ← HBL.out]; exact hO5)); clear hO5 hg5)
          all_goals
            go_wp2_with fail
            go_roundg 0
            case measure => have := HG.out; omega
            case rel => exact ⟨0, P ++ [byteAt n 0], by first | rfl | (congr 1; omega) | go_num, by omega, rfl, by rw [List.append_assoc]; exact HP.out, _, _, _, by rw [← List.append_assoc]; exact HP5.out⟩
        · have hw : IntKind.i64.wrap 8 = 8 := rfl
          have HV := Lib.hid (show IntKind.u8.wrap (n / 256) = ((byteAt n 1).toNat : Nat) from byte_wrap n 1)
          go_upto_region 5 with (fail)
          go_region_law (refine step_append_own rfl (.tmp 25) (.tmp 31) 65 rfl (w0.heap.size + 1) 5 i0 (.int .u8 0) 1 1 Tryz.underlying65 hi y0 y1 y2 rfl (by decide) (.slice a BL c) BL (bcells (B1 ++ P)) (by simp [Act.eval]) (HBODY.out.drew.alloc _) ⟨wr.heap.size, 0, none⟩ 1 1 [.int .u8 (IntKind.u8.wrap (n / 256))] (by simp [Act.eval]) rfl ?c1 ?c2 ?c3 ?c4 ?c5 ?_; (case c1 => (intro j u h; rw [Go.WideShapes.add_plain, Nat.zero_add, ← h]; exact (World.cell?_alloc_new wr _ _ j).trans (by simp))); (case c2 => (intro u hu; simp at hu; rcases hu with rfl; rfl)); (case c3 => (unfold maxLen; omega)); (case c4 => omega); (case c5 => (first | omega | (simp; omega))); intro v' w5 hO5 hg5; obtain ⟨a', c', rfl⟩ := ownsRow_form hO5; have HB5 := Lib.hid (HWP.out.grewD hg5); obtain ⟨e2, g2, hz1⟩ := HWP.out.after HB5.out; rw [HV.out] at hO5; have HP5 := Lib.hid (HWP.out.put2 (B := (B1 ++ P) ++ [byteAt n 1]) HB5.out (by rw [bcells_append, List.length_append, ← HBL.out]; exact hO5)); clear hO5 hg5)
          all_goals
            go_wp2_with fail
            go_roundg 1
            case measure => have := HG.out; omega
            case rel => exact ⟨1, P ++ [byteAt n 1], by first | rfl | (congr 1; omega) | go_num, by omega, rfl, by rw [List.append_assoc]; exact HP.out, _, _, _, by rw [← List.append_assoc]; exact HP5.out⟩
        · have hw : IntKind.i64.wrap 16 = 16 := rfl
          have HV := Lib.hid (show IntKind.u8.wrap (n / 65536) = ((byteAt n 2).toNat : Nat) from byte_wrap n 2)
          go_upto_region 5 with (fail)
          go_region_law (refine step_append_own rfl (.tmp 25) (.tmp 31) 65 rfl (w0.heap.size + 1) 5 i0 (.int .u8 0) 1 1 Tryz.underlying65 hi y0 y1 y2 rfl (by decide) (.slice a BL c) BL (bcells (B1 ++ P)) (by simp [Act.eval]) (HBODY.out.drew.alloc _) ⟨wr.heap.size, 0, none⟩ 1 1 [.int .u8 (IntKind.u8.wrap (n / 65536))] (by simp [Act.eval]) rfl ?c1 ?c2 ?c3 ?c4 ?c5 ?_; (case c1 => (intro j u h; rw [Go.WideShapes.add_plain, Nat.zero_add, ← h]; exact (World.cell?_alloc_new wr _ _ j).trans (by simp))); (case c2 => (intro u hu; simp at hu; rcases hu with rfl; rfl)); (case c3 => (unfold maxLen; omega)); (case c4 => omega); (case c5 => (first | omega | (simp; omega))); intro v' w5 hO5 hg5; obtain ⟨a', c', rfl⟩ := ownsRow_form hO5; have HB5 := Lib.hid (HWP.out.grewD hg5); obtain ⟨e2, g2, hz1⟩ := HWP.out.after HB5.out; rw [HV.out] at hO5; have HP5 := Lib.hid (HWP.out.put2 (B := (B1 ++ P) ++ [byteAt n 2]) HB5.out (by rw [bcells_append, List.length_append, ← HBL.out]; exact hO5)); clear hO5 hg5)
          all_goals
            go_wp2_with fail
            go_roundg 2
            case measure => have := HG.out; omega
            case rel => exact ⟨2, P ++ [byteAt n 2], by first | rfl | (congr 1; omega) | go_num, by omega, rfl, by rw [List.append_assoc]; exact HP.out, _, _, _, by rw [← List.append_assoc]; exact HP5.out⟩
        · have hw : IntKind.i64.wrap 24 = 24 := rfl
          have HV := Lib.hid (show IntKind.u8.wrap (n / 16777216) = ((byteAt n 3).toNat : Nat) from byte_wrap n 3)
          go_upto_region 5 with (fail)
          go_region_law (refine step_append_own rfl (.tmp 25) (.tmp 31) 65 rfl (w0.heap.size + 1) 5 i0 (.int .u8 0) 1 1 Tryz.underlying65 hi y0 y1 y2 rfl (by decide) (.slice a BL c) BL (bcells (B1 ++ P)) (by simp [Act.eval]) (HBODY.out.drew.alloc _) ⟨wr.heap.size, 0, none⟩ 1 1 [.int .u8 (IntKind.u8.wrap (n / 16777216))] (by simp [Act.eval]) rfl ?c1 ?c2 ?c3 ?c4 ?c5 ?_; (case c1 => (intro j u h; rw [Go.WideShapes.add_plain, Nat.zero_add, ← h]; exact (World.cell?_alloc_new wr _ _ j).trans (by simp))); (case c2 => (intro u hu; simp at hu; rcases hu with rfl; rfl)); (case c3 => (unfold maxLen; omega)); (case c4 => omega); (case c5 => (first | omega | (simp; omega))); intro v' w5 hO5 hg5; obtain ⟨a', c', rfl⟩ := ownsRow_form hO5; have HB5 := Lib.hid (HWP.out.grewD hg5); obtain ⟨e2, g2, hz1⟩ := HWP.out.after HB5.out; rw [HV.out] at hO5; have HP5 := Lib.hid (HWP.out.put2 (B := (B1 ++ P) ++ [byteAt n 3]) HB5.out (by rw [bcells_append, List.length_append, ← HBL.out]; exact hO5)); clear hO5 hg5)
          all_goals
            go_wp2_with fail
            go_roundg 3
            case measure => have := HG.out; omega
            case rel => exact ⟨3, P ++ [byteAt n 3], by first | rfl | (congr 1; omega) | go_num, by omega, rfl, by rw [List.append_assoc]; exact HP.out, _, _, _, by rw [← List.append_assoc]; exact HP5.out⟩
      · obtain rfl : j = 0 := by omega
        go_wp2_with fail
        go_ret
        refine .inl ⟨n, _, rfl, rfl, ?_⟩
        have e : P = be k n := by have := HP.out; rw [show be 0 n = [] from rfl, List.append_nil] at this; exact this
        rw [← e]
        exact ⟨_, _, _, HWP.out⟩
  · go_wp2_with fail
    exact ⟨rfl, .inr ⟨rfl, rfl, hB⟩⟩
end Go.Proofs.YtmofnkinclckoaaGreatDoor
