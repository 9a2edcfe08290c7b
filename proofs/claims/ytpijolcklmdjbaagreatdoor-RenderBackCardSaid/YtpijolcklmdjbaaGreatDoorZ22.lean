/- Contracts and mathematics: MM, MW. -/
import Derived.Test.YtpijolcklmdjbaaGreatDoorZ1
import Derived.Lib.Hide
import Derived.Test.YtpijolcklmdjbaaGreatDoorShelf
import Derived.Lib.AppendStr
import Derived.Lib.BufferWrite
import Derived.Shelf.Strings.Prefix
import Derived.Deep.RegionHeld3
import Derived.Deep.LoopGhost
namespace Go.Proofs.YtpijolcklmdjbaaGreatDoor


/-- What is left of a message's texts and numbers, and the body so far. -/
structure WS where
  T : List Bs
  N : List Int
  B : Bs

/-- The byte of a number at a place. -/
def byteAt (n : Int) (i : Nat) : UInt8 := UInt8.ofNat ((n / (256 ^ i : Nat)) % 256).toNat
/-- A number in so many bytes, the greatest first. -/
def be : Nat → Int → Bs
  | 0, _ => []
  | k + 1, n => byteAt n k :: be k n
theorem be_length : ∀ (k : Nat) (n : Int), (be k n).length = k
  | 0, _ => rfl
  | k + 1, n => by rw [be, List.length_cons, be_length k n]

def wNum (l m : Int) (s : WS) : Option (Int × WS) := match s.N with
  | [] => none
  | n :: ns => if l ≤ n ∧ n ≤ m then some (n, { s with N := ns }) else none
def wNumber (l m : Int) (k : Nat) (s : WS) : Option (Int × WS) := (wNum l m s).map fun p => (p.1, { p.2 with B := p.2.B ++ be k p.1 })
def wZero (s : WS) : WS := { s with B := s.B ++ [0] }
def wText (s : WS) : Option WS := match s.T with
  | [] => none
  | t :: ts => if (0 : UInt8) ∈ t then none else some { s with T := ts, B := s.B ++ (t ++ [0]) }
def rep : Nat → (WS → Option WS) → WS → Option WS
  | 0, _, s => some s
  | n + 1, f, s => (f s).bind (rep n f)
def wPair (s : WS) : Option WS := match s.T with
  | [] => none
  | t :: _ => if t = [] then none else wText s
def wPairs (s : WS) : Option WS := (wNum 0 s.T.length s).bind fun p => if p.1 % 2 = 0 then (rep p.1.toNat wPair p.2).map wZero else none
def wItem (s : WS) : Option WS := (wNumber 1 255 1 s).bind fun p => wText p.2
def wFields (s : WS) : Option WS := (wNum 0 s.T.length s).bind fun p => (rep p.1.toNat wItem p.2).map wZero
def wCounted (f : WS → Option WS) (s : WS) : Option WS := (wNumber 0 100 2 s).bind fun p => rep p.1.toNat f p.2
def wShort (s : WS) : Option WS := (wNumber (-32768) 32767 2 s).map (·.2)
def wLong (s : WS) : Option WS := (wNumber (-2147483648) 2147483647 4 s).map (·.2)
def wByte (s : WS) : Option WS := (wNumber 0 255 1 s).map (·.2)
def wRaw (n : Int) (s : WS) : Option WS := match s.T with
  | [] => none
  | t :: ts => if (t.length : Int) = n then some { s with T := ts, B := s.B ++ t } else none
def wValue (s : WS) : Option WS := (wNumber (-1) 10000 4 s).bind fun p => if p.1 < 0 then some p.2 else wRaw p.1 p.2
def wName (s : WS) : Option WS := (wText s).map fun s => { s with B := s.B ++ List.replicate 18 0 }
/-- One field. -/
def wField (c : UInt8) (s : WS) : Option WS :=
  if c = 115 then wText s
  else if c = 98 then wByte s
  else if c = 105 then wLong s
  else if c = 112 then wPairs s
  else if c = 102 then wFields s
  else if c = 99 then wCounted wShort s
  else if c = 108 then wCounted wLong s
  else if c = 118 then wCounted wValue s
  else if c = 109 then wCounted wName s
  else some s
def wAll : Bs → WS → Option WS
  | [], s => some s
  | c :: l, s => (wField c s).bind (wAll l)

/-- How much there can be yet. -/
def room (s : WS) : Nat := s.B.length + ((s.T.map fun t => t.length + 19).sum + 4 * s.N.length)

theorem room_num {l m n : Int} {s s' : WS} (h : wNum l m s = some (n, s')) : s'.B = s.B ∧ s'.T = s.T ∧ room s' + 4 = room s := by
  unfold wNum at h
  cases hN : s.N with
  | nil => rw [hN] at h; cases h
  | cons x ns =>
    rw [hN] at h
    simp only at h
    split at h
    · simp only [Option.some.injEq, Prod.mk.injEq] at h
      obtain ⟨rfl, rfl⟩ := h
      refine ⟨rfl, rfl, ?_⟩
      unfold room
      rw [hN, List.length_cons]
      show s.B.length + ((s.T.map fun t => t.length + 19).sum + 4 * ns.length) + 4 = _
      omega
    · cases h
theorem room_number {l m n : Int} {k : Nat} {s s' : WS} (h : wNumber l m k s = some (n, s')) (hk : k ≤ 4) : room s' ≤ room s ∧ s'.T = s.T := by
  unfold wNumber at h
  cases hN : wNum l m s with
  | none => rw [hN] at h; cases h
  | some p =>
    obtain ⟨x, s1⟩ := p
    rw [hN] at h
    simp only [Option.map_some, Option.some.injEq, Prod.mk.injEq] at h
    obtain ⟨rfl, rfl⟩ := h
    obtain ⟨h1, h2, h3⟩ := room_num hN
    refine ⟨?_, h2⟩
    unfold room at h3 ⊢
    show (s1.B ++ be k x).length + _ ≤ _
    rw [List.length_append, be_length]
    show s1.B.length + k + ((s1.T.map fun t => t.length + 19).sum + 4 * s1.N.length) ≤ _
    omega
theorem num_range {l m n : Int} {s s' : WS} (h : wNum l m s = some (n, s')) : l ≤ n ∧ n ≤ m := by
  unfold wNum at h
  cases hN : s.N with
  | nil => rw [hN] at h; cases h
  | cons x ns =>
    rw [hN] at h
    simp only at h
    split at h
    · rename_i hc
      have e := (Prod.mk.inj (Option.some.inj h)).1
      subst e; exact hc
    · cases h
theorem number_range {l m n : Int} {k : Nat} {s s' : WS} (h : wNumber l m k s = some (n, s')) : l ≤ n ∧ n ≤ m := by
  unfold wNumber at h
  cases hN : wNum l m s with
  | none => rw [hN] at h; cases h
  | some p =>
    obtain ⟨x, s1⟩ := p
    rw [hN] at h
    simp only [Option.map_some, Option.some.injEq, Prod.mk.injEq] at h
    obtain ⟨rfl, _⟩ := h
    exact num_range hN
theorem room_text {s s' : WS} (h : wText s = some s') : room s' + 18 ≤ room s := by
  unfold wText at h
  cases hT : s.T with
  | nil => rw [hT] at h; cases h
  | cons t ts =>
    rw [hT] at h
    simp only at h
    split at h
    · cases h
    · obtain rfl := Option.some.inj h
      unfold room
      rw [hT, List.map_cons, List.sum_cons]
      show (s.B ++ (t ++ [0])).length + ((ts.map fun t => t.length + 19).sum + 4 * s.N.length) + 18 ≤ _
      rw [List.length_append, List.length_append]
      show s.B.length + (t.length + 1) + _ + 18 ≤ _
      omega
theorem room_zero (s : WS) : room (wZero s) = room s + 1 := by
  unfold room wZero
  show (s.B ++ [0]).length + _ = _
  rw [List.length_append]
  show s.B.length + 1 + ((s.T.map fun t => t.length + 19).sum + 4 * s.N.length) = _
  omega
theorem room_rep {f : WS → Option WS} (hf : ∀ s s', f s = some s' → room s' ≤ room s) : ∀ (n : Nat) (s s' : WS), rep n f s = some s' → room s' ≤ room s := by
  intro n
  induction n with
  | zero => intro s s' h; obtain rfl := Option.some.inj h; exact Nat.le_refl _
  | succ n ih =>
    intro s s' h
    rw [rep] at h
    cases hx : f s with
    | none => rw [hx] at h; cases h
    | some s1 =>
      rw [hx] at h
      exact Nat.le_trans (ih s1 s' h) (hf s s1 hx)
theorem rep_succ (n : Nat) (f : WS → Option WS) (s : WS) : rep (n + 1) f s = (rep n f s).bind f := by
  induction n generalizing s with
  | zero =>
    show (f s).bind (rep 0 f) = f s
    cases f s <;> rfl
  | succ n ih =>
    rw [rep, rep]
    cases f s with
    | none => rfl
    | some s1 => exact ih s1
end Go.Proofs.YtpijolcklmdjbaaGreatDoor

namespace Go.Proofs.YtpijolcklmdjbaaGreatDoor
open Go.RowKit Go.Lib Go.WideShapes


/-- A row of texts that lies in w0, of which v is a slice. -/
def TextsIn (w0 : World) (v : Value) (T : List Bs) : Prop := ∃ a n c, v = .slice a n c ∧ T.length = n ∧ n ≤ c ∧ c ≤ 9223372036854775807 ∧
  (T = [] ∨ ∃ g off, a = some ⟨g, off, none⟩ ∧ g < w0.heap.size ∧ ∀ (i : Nat) (t : Bs), T[i]? = some t → w0.cell? ⟨g, off + i, none⟩ = some (.string ⟨t.toArray⟩))
/-- A row of numbers. -/
def NumsIn (w0 : World) (v : Value) (N : List Int) : Prop := ∃ a n c, v = .slice a n c ∧ N.length = n ∧ n ≤ c ∧ c ≤ 9223372036854775807 ∧
  (N = [] ∨ ∃ g off, a = some ⟨g, off, none⟩ ∧ g < w0.heap.size ∧ ∀ (i : Nat) (t : Int), N[i]? = some t → w0.cell? ⟨g, off + i, none⟩ = some (.int .i64 t))
def bcells (B : Bs) : List Value := B.map fun b => .int .u8 (b.toNat : Nat)
theorem bcells_length (B : Bs) : (bcells B).length = B.length := by simp [bcells]
theorem bcells_append (a b : Bs) : bcells (a ++ b) = bcells a ++ bcells b := by simp [bcells]

/-- A writer that was made behind w0. -/
structure WAt (w0 w : World) (s : WS) (tv nv bv : Value) : Prop where
  below : Below w0.heap.size w0 w
  lt : w0.heap.size < w.heap.size
  c0 : w.cell? ⟨w0.heap.size, 0, none⟩ = some tv
  c1 : w.cell? ⟨w0.heap.size, 1, none⟩ = some nv
  c2 : w.cell? ⟨w0.heap.size, 2, none⟩ = some bv
  f0 : w.frozen? ⟨w0.heap.size, 0, none⟩ = false
  f1 : w.frozen? ⟨w0.heap.size, 1, none⟩ = false
  f2 : w.frozen? ⟨w0.heap.size, 2, none⟩ = false
  texts : TextsIn w0 tv s.T
  nums : NumsIn w0 nv s.N
  body : w.ownsRow (w0.heap.size + 1) 5 1 bv s.B.length (bcells s.B)
def IsW (w0 w : World) (s : WS) : Prop := ∃ tv nv bv, WAt w0 w s tv nv bv

def errV : Value := .iface 26 (.int .i64 2)
def Lost (w0 : World) (e : Ending) (w' : World) : Prop := e = .panicked [{ v := errV, recovered := false }] ∧ Below w0.heap.size w0 w'
/-- What an operation of a writer leaves. -/
def WOut (w0 : World) (r : Option WS) (e : Ending) (w' : World) : Prop := (∃ s', r = some s' ∧ e = .returned (.tuple #[]) ∧ IsW w0 w' s') ∨ (r = none ∧ Lost w0 e w')
def WOutN (w0 : World) (r : Option (Int × WS)) (e : Ending) (w' : World) : Prop := (∃ n s', r = some (n, s') ∧ e = .returned (.int .i64 n) ∧ IsW w0 w' s') ∨ (r = none ∧ Lost w0 e w')

theorem demand_ok (w : World) : Calls Tryz.prog 45 #[.bool true] w fun e w' => e = .returned (.tuple #[]) ∧ w = w' := by
  go_enter Tryz.func45, Tryz.ntmps45
  go_wp2
  go_end0
  exact ⟨rfl, rfl⟩
theorem demand_no (w : World) : Calls Tryz.prog 45 #[.bool false] w fun e w' => e = .panicked [{ v := errV, recovered := false }] ∧ w = w' := by
  unfold errV
  go_enter Tryz.func45, Tryz.ntmps45
  go_wp2
  exact ⟨rfl, rfl, rfl⟩

theorem WAt.room_blocks {w0 w : World} {s : WS} {tv nv bv : Value} (h : WAt w0 w s tv nv bv) : ∃ a c, bv = .slice a s.B.length c := ownsRow_form h.body
theorem own_other {w : World} {p i n : Nat} {e : TypeId} {v x : Value} {xs : List Value} (h : w.ownsRow (p + 1) e 1 v n xs) : (w.setCell ⟨p, i, none⟩ x).ownsRow (p + 1) e 1 v n xs := by
  refine h.kept (row := some p) ?_ ?_
  · exact Lib.grownBy_setCell w p i x
  · rcases h.2 with ⟨hv, _⟩ | ⟨g, c, cur, hv, hb, _⟩
    · left; rw [hv]; rfl
    · right
      rw [hv]
      intro e
      have : g = p := Option.some.inj e
      omega
/-- A cell of the writer's own written. -/
theorem WAt.put0 {w0 w : World} {s : WS} {tv nv bv : Value} (h : WAt w0 w s tv nv bv) {T : List Bs} {tv' : Value} (hT : TextsIn w0 tv' T) : WAt w0 (w.setCell ⟨w0.heap.size, 0, none⟩ tv') { s with T := T } tv' nv bv := by
  have n1 : (⟨w0.heap.size, 0, none⟩ : Addr) ≠ ⟨w0.heap.size, 1, none⟩ := by intro e; injection e with _ e; cases e
  have n2 : (⟨w0.heap.size, 0, none⟩ : Addr) ≠ ⟨w0.heap.size, 2, none⟩ := by intro e; injection e with _ e; cases e
  exact ⟨h.below.setCell (Nat.le_refl _) _, by rw [World.size_setCell]; exact h.lt, World.cell?_setCell_same _ _ _ h.c0, (World.cell?_setCell_other _ _ _ _ n1).trans h.c1, (World.cell?_setCell_other _ _ _ _ n2).trans h.c2, by rw [World.frozen?_setCell]; exact h.f0, by rw [World.frozen?_setCell]; exact h.f1, by rw [World.frozen?_setCell]; exact h.f2, hT, h.nums, own_other h.body⟩
theorem WAt.put1 {w0 w : World} {s : WS} {tv nv bv : Value} (h : WAt w0 w s tv nv bv) {N : List Int} {nv' : Value} (hN : NumsIn w0 nv' N) : WAt w0 (w.setCell ⟨w0.heap.size, 1, none⟩ nv') { s with N := N } tv nv' bv := by
  have n0 : (⟨w0.heap.size, 1, none⟩ : Addr) ≠ ⟨w0.heap.size, 0, none⟩ := by intro e; injection e with _ e; cases e
  have n2 : (⟨w0.heap.size, 1, none⟩ : Addr) ≠ ⟨w0.heap.size, 2, none⟩ := by intro e; injection e with _ e; cases e
  exact ⟨h.below.setCell (Nat.le_refl _) _, by rw [World.size_setCell]; exact h.lt, (World.cell?_setCell_other _ _ _ _ n0).trans h.c0, World.cell?_setCell_same _ _ _ h.c1, (World.cell?_setCell_other _ _ _ _ n2).trans h.c2, by rw [World.frozen?_setCell]; exact h.f0, by rw [World.frozen?_setCell]; exact h.f1, by rw [World.frozen?_setCell]; exact h.f2, h.texts, hN, own_other h.body⟩
/-- The body, another row of the writer's own: the world grew, and the cell was written. -/
theorem WAt.put2 {w0 w w1 : World} {s : WS} {tv nv bv bv' : Value} {B : Bs} (h : WAt w0 w s tv nv bv) (hB : Below (w0.heap.size + 1) w w1) (hb : w1.ownsRow (w0.heap.size + 1) 5 1 bv' B.length (bcells B)) : WAt w0 (w1.setCell ⟨w0.heap.size, 2, none⟩ bv') { s with B := B } tv nv bv' := by
  have n0 : (⟨w0.heap.size, 2, none⟩ : Addr) ≠ ⟨w0.heap.size, 0, none⟩ := by intro e; injection e with _ e; cases e
  have n1 : (⟨w0.heap.size, 2, none⟩ : Addr) ≠ ⟨w0.heap.size, 1, none⟩ := by intro e; injection e with _ e; cases e
  have e0 := hB.cell (p := ⟨w0.heap.size, 0, none⟩) (Nat.lt_succ_self _)
  have e1 := hB.cell (p := ⟨w0.heap.size, 1, none⟩) (Nat.lt_succ_self _)
  have e2 := hB.cell (p := ⟨w0.heap.size, 2, none⟩) (Nat.lt_succ_self _)
  have g0 := hB.frozen (p := ⟨w0.heap.size, 0, none⟩) (Nat.lt_succ_self _)
  have g1 := hB.frozen (p := ⟨w0.heap.size, 1, none⟩) (Nat.lt_succ_self _)
  have g2 := hB.frozen (p := ⟨w0.heap.size, 2, none⟩) (Nat.lt_succ_self _)
  exact ⟨(h.below.trans (hB.mono (Nat.le_succ _))).setCell (Nat.le_refl _) _, by rw [World.size_setCell]; exact Nat.lt_of_lt_of_le h.lt hB.size, (World.cell?_setCell_other _ _ _ _ n0).trans (e0.trans h.c0), (World.cell?_setCell_other _ _ _ _ n1).trans (e1.trans h.c1), World.cell?_setCell_same _ _ _ (e2.trans h.c2), by rw [World.frozen?_setCell]; exact g0.trans h.f0, by rw [World.frozen?_setCell]; exact g1.trans h.f1, by rw [World.frozen?_setCell]; exact g2.trans h.f2, h.texts, h.nums, own_other hb⟩

theorem WAt.grew {w0 w w1 : World} {s : WS} {tv nv bv : Value} (h : WAt w0 w s tv nv bv) (hg : w.grownBy w1 bv.ownBlock) : Below (w0.heap.size + 1) w w1 := below_grown (Below.refl _ w) h.lt hg (fun q hq => (h.body.lt q hq).1)
theorem WAt.grewA {w0 w w1 : World} {s : WS} {tv nv bv : Value} {o : Obj} (h : WAt w0 w s tv nv bv) (hg : (w.alloc o).grownBy w1 bv.ownBlock) : Below (w0.heap.size + 1) w w1 := below_grown ((Below.refl (w0.heap.size + 1) w).alloc h.lt _) (by rw [World.size_alloc]; exact Nat.le_succ_of_le h.lt) hg (fun q hq => (h.body.lt q hq).1)
theorem WAt.after {w0 w w1 : World} {s : WS} {tv nv bv : Value} (h : WAt w0 w s tv nv bv) (hB : Below (w0.heap.size + 1) w w1) : w1.cell? ⟨w0.heap.size, 2, none⟩ = some bv ∧ w1.frozen? ⟨w0.heap.size, 2, none⟩ = false ∧ w0.heap.size < w1.heap.size :=
  ⟨(hB.cell (p := ⟨w0.heap.size, 2, none⟩) (Nat.lt_succ_self _)).trans h.c2, (hB.frozen (p := ⟨w0.heap.size, 2, none⟩) (Nat.lt_succ_self _)).trans h.f2, Nat.lt_of_lt_of_le h.lt hB.size⟩
/-- The row behind its first text. -/
theorem TextsIn.tail {w0 : World} {a : Option Addr} {n c : Nat} {t : Bs} {ts : List Bs} (h : TextsIn w0 (.slice a n c) (t :: ts)) : ∃ g off, a = some ⟨g, off, none⟩ ∧ g < w0.heap.size ∧ w0.cell? ⟨g, off, none⟩ = some (.string ⟨t.toArray⟩) ∧ 1 ≤ n ∧ n ≤ c ∧ c ≤ 9223372036854775807 ∧ ts.length = n - 1 ∧ (1 < c → TextsIn w0 (.slice (some ⟨g, off + 1, none⟩) (n - 1) (c - 1)) ts) ∧ (c = 1 → ∀ a', TextsIn w0 (.slice a' 0 0) ts) := by
  obtain ⟨a', n', c', hv, hl, hn, hc, hr⟩ := h
  simp only [Value.slice.injEq] at hv
  obtain ⟨rfl, rfl, rfl⟩ := hv
  rcases hr with hr | ⟨g, off, rfl, hg, hcell⟩
  · cases hr
  · rw [List.length_cons] at hl
    refine ⟨g, off, rfl, hg, hcell 0 t rfl, by omega, hn, hc, by omega, fun _ => ⟨_, _, _, rfl, by omega, by omega, by omega, .inr ⟨g, off + 1, rfl, hg, fun i x hx => ?_⟩⟩, fun h1 a' => ⟨_, _, _, rfl, by omega, Nat.le_refl _, by omega, .inl (List.length_eq_zero_iff.1 (by omega))⟩⟩
    have := hcell (i + 1) x hx
    rwa [show off + (i + 1) = off + 1 + i by omega] at this
theorem NumsIn.tail {w0 : World} {a : Option Addr} {n c : Nat} {t : Int} {ts : List Int} (h : NumsIn w0 (.slice a n c) (t :: ts)) : ∃ g off, a = some ⟨g, off, none⟩ ∧ g < w0.heap.size ∧ w0.cell? ⟨g, off, none⟩ = some (.int .i64 t) ∧ 1 ≤ n ∧ n ≤ c ∧ c ≤ 9223372036854775807 ∧ ts.length = n - 1 ∧ (1 < c → NumsIn w0 (.slice (some ⟨g, off + 1, none⟩) (n - 1) (c - 1)) ts) ∧ (c = 1 → ∀ a', NumsIn w0 (.slice a' 0 0) ts) := by
  obtain ⟨a', n', c', hv, hl, hn, hc, hr⟩ := h
  simp only [Value.slice.injEq] at hv
  obtain ⟨rfl, rfl, rfl⟩ := hv
  rcases hr with hr | ⟨g, off, rfl, hg, hcell⟩
  · cases hr
  · rw [List.length_cons] at hl
    refine ⟨g, off, rfl, hg, hcell 0 t rfl, by omega, hn, hc, by omega, fun _ => ⟨_, _, _, rfl, by omega, by omega, by omega, .inr ⟨g, off + 1, rfl, hg, fun i x hx => ?_⟩⟩, fun h1 a' => ⟨_, _, _, rfl, by omega, Nat.le_refl _, by omega, .inl (List.length_eq_zero_iff.1 (by omega))⟩⟩
    have := hcell (i + 1) x hx
    rwa [show off + (i + 1) = off + 1 + i by omega] at this

/-- What taking a text, or a number, leaves. -/
def NextT (w0 : World) (s : WS) (e : Ending) (w' : World) : Prop := (∃ t ts, s.T = t :: ts ∧ e = .returned (.string ⟨t.toArray⟩) ∧ IsW w0 w' { s with T := ts }) ∨ (s.T = [] ∧ Lost w0 e w')

set_option maxRecDepth 100000 in
set_option maxHeartbeats 4000000 in
theorem nexttext_any (w0 w : World) (s : WS) (h : IsW w0 w s) :
    Calls Tryz.prog 157 #[.pointer (some ⟨w0.heap.size, 0, none⟩)] w (NextT w0 s) := by
  obtain ⟨tv, nv, bv, hW⟩ := h
  obtain ⟨a, n, c, rfl, hl, hn, hc, _⟩ := hW.texts
  have c0 := hW.c0
  have f0 := hW.f0
  have HW := Lib.hid hW
  obtain ⟨T, N, B⟩ := s
  clear hW
  cases T with
  | nil =>
    obtain rfl : 0 = n := hl
    go_enter Tryz.func157, Tryz.ntmps157
    go_wp2_with fail
    refine (demand_no _).mono ?_; rintro e w1 ⟨rfl, rfl⟩
    go_wp2_with fail
    exact ⟨rfl, .inr ⟨rfl, rfl, HW.out.below⟩⟩
  | cons t ts =>
    obtain ⟨g, off, rfl, hg, hcell, h1, _, _, hts, hA, hB⟩ := HW.out.texts.tail
    have d0 := (HW.out.below.cell (p := ⟨g, off, none⟩) hg).trans hcell
    have h1' : (1 : Int) ≤ n := by omega
    have hn' : (n : Int) ≤ c := by omega
    have h0' : 0 < n := by omega
    have HA := Lib.hid hA; have HB := Lib.hid hB
    clear hl hA hB hcell
    by_cases hc1 : c = 1
    · subst hc1
      obtain rfl : n = 1 := by omega
      have HP := Lib.hid (HW.out.put0 (HB.out rfl (some ⟨g, off, none⟩)))
      go_enter Tryz.func157, Tryz.ntmps157
      go_wp2_with fail
      refine (demand_ok _).mono ?_; rintro e w1 ⟨rfl, rfl⟩
      go_wp2_with fail
      go_ret
      exact .inl ⟨t, ts, rfl, rfl, _, _, _, HP.out⟩
    · have hc2 : (2 : Int) ≤ c := by omega
      have HP := Lib.hid (HW.out.put0 (HA.out (by omega)))
      go_enter Tryz.func157, Tryz.ntmps157
      go_wp2_with fail
      refine (demand_ok _).mono ?_; rintro e w1 ⟨rfl, rfl⟩
      go_wp2_with fail
      go_ret
      exact .inl ⟨t, ts, rfl, rfl, _, _, _, HP.out⟩

set_option maxRecDepth 100000 in
set_option maxHeartbeats 4000000 in
theorem nextnum_any (w0 w : World) (s : WS) (l m : Int) (h : IsW w0 w s) :
    Calls Tryz.prog 159 #[.pointer (some ⟨w0.heap.size, 0, none⟩), .int .i64 l, .int .i64 m] w (WOutN w0 (wNum l m s)) := by
  obtain ⟨tv, nv, bv, hW⟩ := h
  obtain ⟨a, n, c, rfl, hl, hn, hc, _⟩ := hW.nums
  have c1 := hW.c1
  have f1 := hW.f1
  have HW := Lib.hid hW
  obtain ⟨T, N, B⟩ := s
  clear hW
  cases N with
  | nil =>
    obtain rfl : 0 = n := hl
    rw [show wNum l m ⟨T, [], B⟩ = none from rfl]
    go_enter Tryz.func159, Tryz.ntmps159
    go_wp2_with fail
    refine (demand_no _).mono ?_; rintro e w1 ⟨rfl, rfl⟩
    go_wp2_with fail
    exact ⟨rfl, .inr ⟨rfl, rfl, HW.out.below⟩⟩
  | cons t ts =>
    obtain ⟨g, off, rfl, hg, hcell, h1, _, _, hts, hA, hB⟩ := HW.out.nums.tail
    have d0 := (HW.out.below.cell (p := ⟨g, off, none⟩) hg).trans hcell
    have h1' : (1 : Int) ≤ n := by omega
    have hn' : (n : Int) ≤ c := by omega
    have h0' : 0 < n := by omega
    have HA := Lib.hid hA; have HB := Lib.hid hB
    clear hl hA hB hcell
    by_cases hr : l ≤ t ∧ t ≤ m
    · rw [show wNum l m ⟨T, t :: ts, B⟩ = some (t, ⟨T, ts, B⟩) by unfold wNum; simp only; rw [if_pos hr]]
      obtain ⟨hr1, hr2⟩ := hr
      by_cases hc1 : c = 1
      · subst hc1
        obtain rfl : n = 1 := by omega
        have HP := Lib.hid (HW.out.put1 (HB.out rfl (some ⟨g, off, none⟩)))
        go_enter Tryz.func159, Tryz.ntmps159
        go_wp2_with fail
        refine (demand_ok _).mono ?_; rintro e w1 ⟨rfl, rfl⟩
        go_wp2_with fail
        refine (demand_ok _).mono ?_; rintro e w1 ⟨rfl, rfl⟩
        go_wp2_with fail
        go_ret
        exact .inl ⟨t, _, rfl, rfl, _, _, _, HP.out⟩
      · have hc2 : (2 : Int) ≤ c := by omega
        have HP := Lib.hid (HW.out.put1 (HA.out (by omega)))
        go_enter Tryz.func159, Tryz.ntmps159
        go_wp2_with fail
        refine (demand_ok _).mono ?_; rintro e w1 ⟨rfl, rfl⟩
        go_wp2_with fail
        refine (demand_ok _).mono ?_; rintro e w1 ⟨rfl, rfl⟩
        go_wp2_with fail
        go_ret
        exact .inl ⟨t, _, rfl, rfl, _, _, _, HP.out⟩
    · rw [show wNum l m ⟨T, t :: ts, B⟩ = none by unfold wNum; simp only; rw [if_neg hr]]
      by_cases hr1 : l ≤ t
      · have hr2 : m < t := by omega
        have hr3 : decide (t ≤ m) = false := by simp; omega
        clear hr
        go_enter Tryz.func159, Tryz.ntmps159
        go_wp2_with fail
        refine (demand_ok _).mono ?_; rintro e w1 ⟨rfl, rfl⟩
        go_wp2_with fail
        refine (demand_no _).mono ?_; rintro e w1 ⟨rfl, rfl⟩
        go_wp2_with fail
        exact ⟨rfl, .inr ⟨rfl, rfl, HW.out.below⟩⟩
      · have hr2 : t < l := by omega
        clear hr hr1
        go_enter Tryz.func159, Tryz.ntmps159
        go_wp2_with fail
        refine (demand_ok _).mono ?_; rintro e w1 ⟨rfl, rfl⟩
        go_wp2_with fail
        refine (demand_no _).mono ?_; rintro e w1 ⟨rfl, rfl⟩
        go_wp2_with fail
        exact ⟨rfl, .inr ⟨rfl, rfl, HW.out.below⟩⟩

theorem info_u8 : (Tryz.prog.info? 5).map (fun i => (i.zero, i.size, i.bytes)) = some (some (.int .u8 0), 1, 1) := by kernel_rfl

set_option maxRecDepth 100000 in
set_option maxHeartbeats 4000000 in
theorem zero_any (w0 w : World) (s : WS) (hr : s.B.length ≤ 1000000) (h : IsW w0 w s) :
    Calls Tryz.prog 158 #[.pointer (some ⟨w0.heap.size, 0, none⟩)] w (WOut w0 (some (wZero s))) := by
  obtain ⟨i0, hi, y0, y1, y2⟩ := info_parts info_u8
  obtain ⟨tv, nv, bv, hW⟩ := h
  obtain ⟨a, c, rfl⟩ := hW.room_blocks
  have c2 := hW.c2
  have f2 := hW.f2
  have hz := hW.lt
  have HW := Lib.hid hW
  clear hW
  go_enter Tryz.func158, Tryz.ntmps158
  go_wp2_with (at_builtin; refine wpList_append_at _ rfl (.tmp 6) (.tmp 7) 47 rfl (w0.heap.size + 1) 5 i0 (.int .u8 0) 1 1 Tryz.underlying47 hi y0 y1 y2 rfl (by decide) (.slice a s.B.length c) s.B.length (bcells s.B) rfl (HW.out.body.alloc _) ⟨w.heap.size, 0, none⟩ 1 1 [.int .u8 0] rfl rfl (fun j u h => by rw [Go.WideShapes.add_plain, Nat.zero_add, ← h]; exact (World.cell?_alloc_new w _ _ j).trans (by simp)) (by intro u hu; simp at hu; rcases hu with rfl; rfl) (by unfold maxLen; omega) (by omega) (by simp; omega) ?_)
  intro v' w1 hO hg _
  obtain ⟨a', c', rfl⟩ := ownsRow_form hO
  have HB := Lib.hid (HW.out.grewA hg)
  obtain ⟨e2, g2, hz1⟩ := HW.out.after HB.out
  have HP := Lib.hid (HW.out.put2 (B := s.B ++ [0]) HB.out (by rw [bcells_append, List.length_append]; exact hO))
  clear hO hg c2 f2
  go_wp2_with fail
  go_end0
  exact .inl ⟨_, rfl, rfl, _, _, _, HP.out⟩

/-- An append whose outcome is known. -/
theorem wpList_append_eq {P : Program} {w : World} {ops : Array Oper} {rest : List Oper} {o : Oper} {a : Act} {Q : Exit → Act → World → Prop} (hgd : o.guard = none) (s x : Operand) (t u : TypeId)
    (ho : o.op = .call { callee := .builtin .append, args := #[s, x], argTypes := #[t, u] }) (vs vx : Value) (hs : a.eval s = vs) (hx : a.eval x = vx) (v' : Value) (w' : World)
    (hrun : (Builtin.append_ #[t, u] o.type #[vs, vx]).run P w = .ok v' w') (h : wpList P ops Q rest (a.put o.dst v') w') : wpList P ops Q (o :: rest) a w :=
  wpList_plain hgd fun _ hK => by
    unfold Oper.wp execOp
    simp only [ho, resolve, invoke, builtin, Sem.run_bind, Sem.run_pure, Result.andThen_ok, List.map_toArray, List.map_cons, List.map_nil, hs, hx, hrun]
    exact hK _ _ h

set_option maxRecDepth 100000 in
set_option maxHeartbeats 4000000 in
/-- A text put behind the body, as it is. -/
theorem put_text {w0 w : World} {s : WS} {tv nv : Value} {a : Option Addr} {c : Nat} (X : ByteArray) (hr : s.B.length ≤ 1000000) (hx : X.size ≤ 1000000) (h : WAt w0 w s tv nv (.slice a s.B.length c)) :
    ∃ a' c' w1, (Builtin.append_ #[47, 9] 47 #[.slice a s.B.length c, .string X]).run Tryz.prog w = .ok (.slice a' (s.B.length + X.size) c') w1 ∧ w1.cell? ⟨w0.heap.size, 2, none⟩ = some (.slice a s.B.length c) ∧ w1.frozen? ⟨w0.heap.size, 2, none⟩ = false ∧ w0.heap.size < w1.heap.size ∧ WAt w0 (w1.setCell ⟨w0.heap.size, 2, none⟩ (.slice a' (s.B.length + X.size) c')) { s with B := s.B ++ bytes X } tv nv (.slice a' (s.B.length + X.size) c') := by
  obtain ⟨i0, hi, y0, y1, y2⟩ := info_parts info_u8
  obtain ⟨v', w1, hrun, hO, hg, _⟩ := run_append_own_string (P := Tryz.prog) w (w0.heap.size + 1) 47 9 47 5 i0 Tryz.underlying47 Tryz.underlying9 hi y0 y1 y2 _ _ _ h.body X (by unfold maxLen; omega) (by omega) h.lt
  obtain ⟨a', c', rfl⟩ := ownsRow_form hO
  obtain ⟨e2, g2, hz1⟩ := h.after (h.grew hg)
  refine ⟨a', c', w1, hrun, e2, g2, hz1, h.put2 (B := s.B ++ bytes X) (h.grew hg) ?_⟩
  rw [bcells_append, List.length_append, blen]
  exact hO
end Go.Proofs.YtpijolcklmdjbaaGreatDoor
