/- Contracts and mathematics: DM, DK, DL. -/
import Derived.Test.YtmofnkinclckoaaGreatDoorZ11
import Derived.Test.YtmofnkinclckoaaGreatDoorZ3
import Derived.Test.YtmofnkinclckoaaGreatDoorZ7
import Derived.Deep.Cut
import Derived.Lib.QuoteBits
import Derived.Lib.ConvBytes
import Derived.Lib.SmallJoins
namespace Go.Proofs.YtmofnkinclckoaaGreatDoor
open Go.RowKit Go.Lib Go.WideShapes

def tcells (T : List Bs) : List Value := T.map fun t => .string ⟨t.toArray⟩
def ncells (N : List Int) : List Value := N.map fun n => .int .i64 n
theorem tcells_length (T : List Bs) : (tcells T).length = T.length := by simp [tcells]
theorem ncells_length (N : List Int) : (ncells N).length = N.length := by simp [ncells]
theorem tcells_append (a b : List Bs) : tcells (a ++ b) = tcells a ++ tcells b := by simp [tcells]
theorem ncells_append (a b : List Int) : ncells (a ++ b) = ncells a ++ ncells b := by simp [ncells]

/-- A reader that was made behind w0. -/
structure DAt (w0 w : World) (s : RS) (tv nv : Value) : Prop where
  below : Below w0.heap.size w0 w
  lt : w0.heap.size < w.heap.size
  c0 : w.cell? ⟨w0.heap.size, 0, none⟩ = some (.string ⟨s.S.toArray⟩)
  c1 : w.cell? ⟨w0.heap.size, 1, none⟩ = some tv
  c2 : w.cell? ⟨w0.heap.size, 2, none⟩ = some nv
  f0 : w.frozen? ⟨w0.heap.size, 0, none⟩ = false
  f1 : w.frozen? ⟨w0.heap.size, 1, none⟩ = false
  f2 : w.frozen? ⟨w0.heap.size, 2, none⟩ = false
  texts : w.ownsRow (w0.heap.size + 1) 9 1 tv s.T.length (tcells s.T)
  nums : w.ownsRow (w0.heap.size + 1) 3 1 nv s.N.length (ncells s.N)
def IsD (w0 w : World) (s : RS) : Prop := ∃ tv nv, DAt w0 w s tv nv

/-- What an operation of a reader leaves. -/
def DOut (w0 : World) (r : Option RS) (e : Ending) (w' : World) : Prop := (∃ s', r = some s' ∧ e = .returned (.tuple #[]) ∧ IsD w0 w' s') ∨ (r = none ∧ Lost w0 e w')
def DOutN (w0 : World) (r : Option (Int × RS)) (e : Ending) (w' : World) : Prop := (∃ n s', r = some (n, s') ∧ e = .returned (.int .i64 n) ∧ IsD w0 w' s') ∨ (r = none ∧ Lost w0 e w')
def DOutS (w0 : World) (r : Option (Bs × RS)) (e : Ending) (w' : World) : Prop := (∃ b s', r = some (b, s') ∧ e = .returned (.string ⟨b.toArray⟩) ∧ IsD w0 w' s') ∨ (r = none ∧ Lost w0 e w')

theorem DAt.put0 {w0 w : World} {s : RS} {tv nv : Value} (h : DAt w0 w s tv nv) (S : Bs) : DAt w0 (w.setCell ⟨w0.heap.size, 0, none⟩ (.string ⟨S.toArray⟩)) { s with S := S } tv nv := by
  have n1 : (⟨w0.heap.size, 0, none⟩ : Addr) ≠ ⟨w0.heap.size, 1, none⟩ := by intro e; injection e with _ e; cases e
  have n2 : (⟨w0.heap.size, 0, none⟩ : Addr) ≠ ⟨w0.heap.size, 2, none⟩ := by intro e; injection e with _ e; cases e
  exact ⟨h.below.setCell (Nat.le_refl _) _, by rw [World.size_setCell]; exact h.lt, World.cell?_setCell_same _ _ _ h.c0, (World.cell?_setCell_other _ _ _ _ n1).trans h.c1, (World.cell?_setCell_other _ _ _ _ n2).trans h.c2, by rw [World.frozen?_setCell]; exact h.f0, by rw [World.frozen?_setCell]; exact h.f1, by rw [World.frozen?_setCell]; exact h.f2, own_other h.texts, own_other h.nums⟩
theorem DAt.drew {w0 w : World} {s : RS} {tv nv : Value} (h : DAt w0 w s tv nv) : DAt w0 w.drew s tv nv :=
  ⟨h.below.drew, h.lt, h.c0, h.c1, h.c2, h.f0, h.f1, h.f2, h.texts.drew, h.nums.drew⟩
theorem DAt.drewN {w0 w : World} {s : RS} {tv nv : Value} (h : DAt w0 w s tv nv) (n : Nat) : DAt w0 (w.drewN n) s tv nv :=
  ⟨below_drewN h.below n, h.lt, h.c0, h.c1, h.c2, h.f0, h.f1, h.f2, h.texts, h.nums⟩
/-- Two rows of other types lie in other blocks. -/
theorem own_apart {w : World} {b1 b2 : Nat} {e1 e2 : TypeId} {v1 v2 : Value} {n1 n2 : Nat} {xs1 xs2 : List Value} (h1 : w.ownsRow b1 e1 1 v1 n1 xs1) (h2 : w.ownsRow b2 e2 1 v2 n2 xs2) (hne : e1 ≠ e2) : v2.ownBlock = none ∨ v2.ownBlock ≠ v1.ownBlock := by
  rcases h2.2 with ⟨hv, _⟩ | ⟨g, cap, cur, hv, _, hg, _⟩
  · left; rw [hv]; rfl
  · right
    rcases h1.2 with ⟨hv1, _⟩ | ⟨g1, cap1, cur1, hv1, _, hg1, _⟩
    · rw [hv, hv1]; intro e; cases e
    · rw [hv, hv1]
      intro e
      have e' : g = g1 := Option.some.inj e
      subst e'
      rw [hg] at hg1
      injection hg1 with hg1
      injection hg1 with _ ht _
      exact hne ht.symm
/-- The world grew but for the row of texts: then the cell of the texts was written. -/
theorem DAt.put1 {w0 w w1 : World} {s : RS} {tv nv tv' : Value} {T : List Bs} (h : DAt w0 w s tv nv) (hB : Below (w0.heap.size + 1) w w1) (hb : w1.ownsRow (w0.heap.size + 1) 9 1 tv' T.length (tcells T)) (hn : w1.ownsRow (w0.heap.size + 1) 3 1 nv s.N.length (ncells s.N)) : DAt w0 (w1.setCell ⟨w0.heap.size, 1, none⟩ tv') { s with T := T } tv' nv := by
  have n0 : (⟨w0.heap.size, 1, none⟩ : Addr) ≠ ⟨w0.heap.size, 0, none⟩ := by intro e; injection e with _ e; cases e
  have n2 : (⟨w0.heap.size, 1, none⟩ : Addr) ≠ ⟨w0.heap.size, 2, none⟩ := by intro e; injection e with _ e; cases e
  have k : ∀ i, w1.cell? ⟨w0.heap.size, i, none⟩ = w.cell? ⟨w0.heap.size, i, none⟩ := fun i => hB.cell (p := ⟨w0.heap.size, i, none⟩) (Nat.lt_succ_self _)
  have f : ∀ i, w1.frozen? ⟨w0.heap.size, i, none⟩ = w.frozen? ⟨w0.heap.size, i, none⟩ := fun i => hB.frozen (p := ⟨w0.heap.size, i, none⟩) (Nat.lt_succ_self _)
  exact ⟨(h.below.trans (hB.mono (Nat.le_succ _))).setCell (Nat.le_refl _) _, by rw [World.size_setCell]; exact Nat.lt_of_lt_of_le h.lt hB.size, (World.cell?_setCell_other _ _ _ _ n0).trans ((k 0).trans h.c0), World.cell?_setCell_same _ _ _ ((k 1).trans h.c1), (World.cell?_setCell_other _ _ _ _ n2).trans ((k 2).trans h.c2), by rw [World.frozen?_setCell]; exact (f 0).trans h.f0, by rw [World.frozen?_setCell]; exact (f 1).trans h.f1, by rw [World.frozen?_setCell]; exact (f 2).trans h.f2, own_other hb, own_other hn⟩
theorem DAt.put2 {w0 w w1 : World} {s : RS} {tv nv nv' : Value} {N : List Int} (h : DAt w0 w s tv nv) (hB : Below (w0.heap.size + 1) w w1) (ht : w1.ownsRow (w0.heap.size + 1) 9 1 tv s.T.length (tcells s.T)) (hb : w1.ownsRow (w0.heap.size + 1) 3 1 nv' N.length (ncells N)) : DAt w0 (w1.setCell ⟨w0.heap.size, 2, none⟩ nv') { s with N := N } tv nv' := by
  have n0 : (⟨w0.heap.size, 2, none⟩ : Addr) ≠ ⟨w0.heap.size, 0, none⟩ := by intro e; injection e with _ e; cases e
  have n1 : (⟨w0.heap.size, 2, none⟩ : Addr) ≠ ⟨w0.heap.size, 1, none⟩ := by intro e; injection e with _ e; cases e
  have k : ∀ i, w1.cell? ⟨w0.heap.size, i, none⟩ = w.cell? ⟨w0.heap.size, i, none⟩ := fun i => hB.cell (p := ⟨w0.heap.size, i, none⟩) (Nat.lt_succ_self _)
  have f : ∀ i, w1.frozen? ⟨w0.heap.size, i, none⟩ = w.frozen? ⟨w0.heap.size, i, none⟩ := fun i => hB.frozen (p := ⟨w0.heap.size, i, none⟩) (Nat.lt_succ_self _)
  exact ⟨(h.below.trans (hB.mono (Nat.le_succ _))).setCell (Nat.le_refl _) _, by rw [World.size_setCell]; exact Nat.lt_of_lt_of_le h.lt hB.size, (World.cell?_setCell_other _ _ _ _ n0).trans ((k 0).trans h.c0), (World.cell?_setCell_other _ _ _ _ n1).trans ((k 1).trans h.c1), World.cell?_setCell_same _ _ _ ((k 2).trans h.c2), by rw [World.frozen?_setCell]; exact (f 0).trans h.f0, by rw [World.frozen?_setCell]; exact (f 1).trans h.f1, by rw [World.frozen?_setCell]; exact (f 2).trans h.f2, own_other ht, own_other hb⟩

theorem string_ne_int : 9 ≠ 3 := by decide

theorem DAt.rowT {w0 w w1 : World} {s : RS} {tv nv : Value} {o : Obj} (h : DAt w0 w s tv nv) (hg : (w.alloc o).grownBy w1 nv.ownBlock) : w1.ownsRow (w0.heap.size + 1) 9 1 tv s.T.length (tcells s.T) :=
  (h.texts.alloc o).kept hg (own_apart (h.nums.alloc o) (h.texts.alloc o) string_ne_int.symm)
theorem DAt.rowN {w0 w w1 : World} {s : RS} {tv nv : Value} {o : Obj} (h : DAt w0 w s tv nv) (hg : (w.alloc o).grownBy w1 tv.ownBlock) : w1.ownsRow (w0.heap.size + 1) 3 1 nv s.N.length (ncells s.N) :=
  (h.nums.alloc o).kept hg (own_apart (h.texts.alloc o) (h.nums.alloc o) string_ne_int)
theorem DAt.grewN {w0 w w1 : World} {s : RS} {tv nv : Value} {o : Obj} (h : DAt w0 w s tv nv) (hg : (w.alloc o).grownBy w1 nv.ownBlock) : Below (w0.heap.size + 1) w w1 :=
  below_grown ((Below.refl (w0.heap.size + 1) w).alloc h.lt _) (by rw [World.size_alloc]; exact Nat.le_succ_of_le h.lt) hg (fun q hq => (h.nums.lt q hq).1)
theorem DAt.grewT {w0 w w1 : World} {s : RS} {tv nv : Value} {o : Obj} (h : DAt w0 w s tv nv) (hg : (w.alloc o).grownBy w1 tv.ownBlock) : Below (w0.heap.size + 1) w w1 :=
  below_grown ((Below.refl (w0.heap.size + 1) w).alloc h.lt _) (by rw [World.size_alloc]; exact Nat.le_succ_of_le h.lt) hg (fun q hq => (h.texts.lt q hq).1)
theorem DAt.afterN {w0 w w1 : World} {s : RS} {tv nv : Value} (h : DAt w0 w s tv nv) (hB : Below (w0.heap.size + 1) w w1) : (w1.cell? ⟨w0.heap.size, 2, none⟩ = some nv ∧ w1.frozen? ⟨w0.heap.size, 2, none⟩ = false) ∧ (w1.cell? ⟨w0.heap.size, 1, none⟩ = some tv ∧ w1.frozen? ⟨w0.heap.size, 1, none⟩ = false) ∧ w0.heap.size < w1.heap.size :=
  ⟨⟨(hB.cell (p := ⟨w0.heap.size, 2, none⟩) (Nat.lt_succ_self _)).trans h.c2, (hB.frozen (p := ⟨w0.heap.size, 2, none⟩) (Nat.lt_succ_self _)).trans h.f2⟩, ⟨(hB.cell (p := ⟨w0.heap.size, 1, none⟩) (Nat.lt_succ_self _)).trans h.c1, (hB.frozen (p := ⟨w0.heap.size, 1, none⟩) (Nat.lt_succ_self _)).trans h.f1⟩, Nat.lt_of_lt_of_le h.lt hB.size⟩
/-- A world that left all up to the reader as it was, and its rows. -/
theorem DAt.grow {w0 w w' : World} {s : RS} {tv nv : Value} (h : DAt w0 w s tv nv) (hb : Below w.heap.size w w') : DAt w0 w' s tv nv := by
  have hb1 : Below (w0.heap.size + 1) w w' := hb.mono h.lt
  have k : ∀ i, w'.cell? ⟨w0.heap.size, i, none⟩ = w.cell? ⟨w0.heap.size, i, none⟩ := fun i => hb1.cell (p := ⟨w0.heap.size, i, none⟩) (Nat.lt_succ_self _)
  have f : ∀ i, w'.frozen? ⟨w0.heap.size, i, none⟩ = w.frozen? ⟨w0.heap.size, i, none⟩ := fun i => hb1.frozen (p := ⟨w0.heap.size, i, none⟩) (Nat.lt_succ_self _)
  exact ⟨h.below.trans (hb1.mono (Nat.le_succ _)), Nat.lt_of_lt_of_le h.lt hb.size, (k 0).trans h.c0, (k 1).trans h.c1, (k 2).trans h.c2, (f 0).trans h.f0, (f 1).trans h.f1, (f 2).trans h.f2, own_grown h.texts hb (Nat.le_refl _), own_grown h.nums hb (Nat.le_refl _)⟩

/-- How much there can be yet. -/
def droom (s : RS) : Nat := s.S.length + (s.T.length + s.N.length)

theorem take_list (S : Bs) (n : Nat) : (⟨S.toArray⟩ : ByteArray).extract 0 n = ⟨(S.take n).toArray⟩ := by
  apply ByteArray.ext; apply Array.toList_inj.1
  simp [ByteArray.data_extract]
theorem drop_list (S : Bs) (n : Nat) : (⟨S.toArray⟩ : ByteArray).extract n (⟨S.toArray⟩ : ByteArray).size = ⟨(S.drop n).toArray⟩ := by
  apply ByteArray.ext; apply Array.toList_inj.1
  rw [bsize]
  simp [ByteArray.data_extract, List.take_of_length_le]

/-- What taking leaves, the rows where they were. -/
def TakeAt (w0 : World) (tv nv : Value) (r : Option (Bs × RS)) (e : Ending) (w' : World) : Prop := (∃ b s', r = some (b, s') ∧ e = .returned (.string ⟨b.toArray⟩) ∧ DAt w0 w' s' tv nv) ∨ (r = none ∧ Lost w0 e w')
set_option maxRecDepth 100000 in
set_option maxHeartbeats 4000000 in
theorem take_at (w0 w : World) (s : RS) (tv nv : Value) (n : Nat) (hl : s.S.length ≤ 1000000) (hW : DAt w0 w s tv nv) :
    Calls Tryz.prog 75 #[.pointer (some ⟨w0.heap.size, 0, none⟩), .int .i64 n] w (TakeAt w0 tv nv (rTake n s)) := by
  have c0 := hW.c0
  have f0 := hW.f0
  have HW := Lib.hid hW
  clear hW
  by_cases hn : n ≤ s.S.length
  · have HR := Lib.hid (show rTake n s = some (s.S.take n, { s with S := s.S.drop n }) from if_pos hn)
    rw [HR.out]
    have HP := Lib.hid (HW.out.put0 (s.S.drop n))
    rw [← drop_list] at HP
    have HT := Lib.hid (take_list s.S n)
    obtain ⟨sb, hsb⟩ : ∃ sb : ByteArray, sb = ⟨s.S.toArray⟩ := ⟨_, rfl⟩
    have hsz : sb.size = s.S.length := by rw [hsb, bsize]
    rw [← hsb] at c0 HP HT
    have h1 : (n : Int) ≤ sb.size := by omega
    have h2 : sb.size ≤ 1000000 := by omega
    have HSZ := Lib.hid hsz
    clear hsb HR hn hl hsz
    go_enter Tryz.func75, Tryz.ntmps75
    go_wp2_with fail
    refine (demand_ok _).mono ?_; rintro e w1 ⟨rfl, rfl⟩
    go_wp2_with fail
    go_ret
    refine .inl ⟨_, _, rfl, by rw [← HT.out]; rfl, HP.out⟩
  · have HR := Lib.hid (show rTake n s = none from if_neg hn)
    rw [HR.out]
    obtain ⟨sb, hsb⟩ : ∃ sb : ByteArray, sb = ⟨s.S.toArray⟩ := ⟨_, rfl⟩
    have hsz : sb.size = s.S.length := by rw [hsb, bsize]
    rw [← hsb] at c0
    have h1 : ¬ (n : Int) ≤ sb.size := by omega
    have h3 : decide ((n : Int) ≤ sb.size) = false := decide_eq_false h1
    have HSZ := Lib.hid hsz
    clear hsb HR hn hl hsz
    go_enter Tryz.func75, Tryz.ntmps75
    go_wp2_with fail
    refine (demand_no _).mono ?_; rintro e w1 ⟨rfl, rfl⟩
    go_wp2_with fail
    exact ⟨rfl, .inr ⟨rfl, rfl, HW.out.below⟩⟩
theorem take_anyM (w0 w : World) (s : RS) (n : Nat) (hl : s.S.length ≤ 1000000) (h : IsD w0 w s) :
    Calls Tryz.prog 75 #[.pointer (some ⟨w0.heap.size, 0, none⟩), .int .i64 n] w (DOutS w0 (rTake n s)) := by
  obtain ⟨tv, nv, hW⟩ := h
  refine (take_at w0 w s tv nv n hl hW).mono ?_
  rintro e w' (⟨b, s', h1, h2, h3⟩ | ⟨h1, h2⟩)
  · exact .inl ⟨b, s', h1, h2, tv, nv, h3⟩
  · exact .inr ⟨h1, h2⟩
end Go.Proofs.YtmofnkinclckoaaGreatDoor

namespace Go.Proofs.YtmofnkinclckoaaGreatDoor
open Go.RowKit Go.Lib Go.WideShapes

theorem info_i64 : (Tryz.prog.info? 3).map (fun i => (i.zero, i.size, i.bytes)) = some (some (.int .i64 0), 1, 8) := by kernel_rfl

set_option maxRecDepth 100000 in
set_option maxHeartbeats 4000000 in
theorem keep_any (w0 w : World) (s : RS) (n : Int) (hr : s.N.length ≤ 1000000) (h : IsD w0 w s) :
    Calls Tryz.prog 49 #[.pointer (some ⟨w0.heap.size, 0, none⟩), .int .i64 n] w (DOut w0 (some (rKeep n s))) := by
  obtain ⟨i0, hi, y0, y1, y2⟩ := info_parts info_i64
  obtain ⟨tv, nv, hW⟩ := h
  obtain ⟨a, c, rfl⟩ := ownsRow_form hW.nums
  have c2 := hW.c2
  have f2 := hW.f2
  have hz := hW.lt
  have HW := Lib.hid hW
  clear hW
  go_enter Tryz.func49, Tryz.ntmps49
  go_wp2_with (at_builtin; refine wpList_append_at _ rfl (.tmp 8) (.tmp 10) 34 rfl (w0.heap.size + 1) 3 i0 (.int .i64 0) 1 8 Tryz.underlying34 hi y0 y1 y2 rfl (by decide) (.slice a s.N.length c) s.N.length (ncells s.N) rfl (HW.out.nums.alloc _) ⟨w.heap.size, 0, none⟩ 1 1 [.int .i64 n] rfl rfl (fun j u h => by rw [Go.WideShapes.add_plain, Nat.zero_add, ← h]; exact (World.cell?_alloc_new w _ _ j).trans (by simp)) (by intro u hu; simp at hu; rcases hu with rfl; rfl) (by unfold maxLen; omega) (by omega) (by simp; omega) ?_)
  intro v' w1 hO hg _
  obtain ⟨a', c', rfl⟩ := ownsRow_form hO
  have HB := Lib.hid (HW.out.grewN hg)
  obtain ⟨⟨e2, g2⟩, _, hz1⟩ := HW.out.afterN HB.out
  have HP := Lib.hid (HW.out.put2 (N := s.N ++ [n]) HB.out (HW.out.rowT hg) (by rw [ncells_append, List.length_append]; exact hO))
  clear hO hg c2 f2
  go_wp2_with fail
  go_end0
  exact .inl ⟨_, rfl, rfl, _, _, HP.out⟩

theorem or_byte (n : Nat) (b : UInt8) (h : n < 16777216) : bits .or .i64 ((n : Int) * 256) (b.toNat : Nat) = ((n * 256 + b.toNat : Nat) : Int) := by
  have hb : b.toNat < 256 := UInt8.toNat_lt b
  have hk : ∀ n : Int, 0 ≤ n → n < 2 ^ 62 → IntKind.i64.wrap n = n := by
    intro n h0 h1
    obtain ⟨m, rfl⟩ := Int.eq_ofNat_of_zero_le h0
    exact wrap_i64_small m (by omega)
  rw [bits_join .i64 62 (by decide) hk 8 ((n : Int) * 256) (b.toNat : Nat) (by omega) (by omega) (by omega) (by omega) (by omega) (by omega)]
  omega
theorem conv_to (w : World) (s : ByteArray) : ∃ W c, (convert 9 65 (.string s)).run Tryz.prog w = .ok (.slice (some ⟨w.heap.size, 0, none⟩) s.size c) W ∧ (∀ j (hj : j < s.size), W.cell? ⟨w.heap.size, j, none⟩ = some (.int .u8 (s[j].toNat : Nat))) ∧ Below w.heap.size w W := by
  refine ⟨_, _, Lib.run_convert_string_bytes w 9 65 5 s Tryz.underlying9 Tryz.underlying65 Tryz.underlying5, ?_, Joins.below_bytesWorld _ _ _ _ (Nat.le_refl _)⟩
  intro j hj
  rw [Lib.bytesWorld_cell w 5 s j hj]
  have : s.data.toList.getD j 0 = s[j] := by
    rw [List.getD_eq_getElem?_getD, List.getElem?_eq_getElem (by simpa using hj)]; rfl
  rw [this]

set_option maxRecDepth 100000 in
set_option maxHeartbeats 8000000 in
theorem unsigned_any (w0 w : World) (s : RS) (k : Nat) (hk : 1 ≤ k ∧ k ≤ 4) (hl : s.S.length ≤ 1000000) (h : IsD w0 w s) :
    Calls Tryz.prog 50 #[.pointer (some ⟨w0.heap.size, 0, none⟩), .int .i64 k] w (DOutN w0 (rUnsigned k s)) := by
  have HT := Lib.hid (take_anyM w0 w s k hl h)
  obtain ⟨hk1, hk4⟩ := hk
  unfold rUnsigned
  have HTO := Lib.hid (fun b s' => take_out (k := k) (s := s) (b := b) (s' := s'))
  generalize rTake k s = R at HT HTO ⊢
  clear h hl
  go_enter Tryz.func50, Tryz.ntmps50
  go_wp2_with fail
  refine HT.out.mono ?_; rintro e w1 (⟨b, s1, rfl, rfl, hI⟩ | ⟨rfl, rfl, hB⟩)
  · have hbl := (HTO.out b s1 rfl).2.1
    obtain ⟨bb, hbb⟩ : ∃ bb : ByteArray, bb = ⟨b.toArray⟩ := ⟨_, rfl⟩
    have hbz : bb.size = k := by rw [hbb, bsize]; exact hbl
    have HBB := Lib.hid (show bytes bb = b by rw [hbb])
    have HI := Lib.hid hI
    have h0 : 0 < bb.size := by omega
    have hb4 : bb.size ≤ 4 := by omega
    rw [← hbb]
    have HBZ := Lib.hid hbz
    clear hbb hbl hI hbz
    obtain ⟨W, cap, hcv, hcell, hWB⟩ := conv_to w1 bb
    have HCELL := Lib.hid hcell
    have HI2 := Lib.hid (show IsD w0 W s1 from by obtain ⟨tv, nv, hD⟩ := HI.out; exact ⟨tv, nv, hD.grow hWB⟩)
    have HBLT := Lib.hid (show ∀ j, unsig (b.take j) < 256 ^ j from fun j => Nat.lt_of_lt_of_le (unsig_lt _) (Nat.pow_le_pow_right (by decide) (List.length_take_le _ _)))
    clear hcell hWB
    go_wp2_with fail
    go_loopw [5, 13] (fun n i wx => ∃ j : Nat, j ≤ bb.size ∧ i = .int .i64 j ∧ n = .int .i64 (unsig (b.take j) : Nat) ∧ wx = W) (fun _ i _ => bb.size - (RowKit.intOf i).toNat)
    case atStart => exact ⟨0, Nat.zero_le _, rfl, rfl, rfl⟩
    case round =>
      obtain ⟨j, hj, rfl, rfl, hwr⟩ := hrel
      subst hwr
      clear hcv
      by_cases hlt : j < bb.size
      · have hlt' : (j : Int) < bb.size := by omega
        have d0 := HCELL.out j hlt
        have hjb : j < b.length := by rw [← HBB.out, blen]; exact hlt
        have hg : b[j] = bb[j] := by
          have : (bytes bb)[j]'(by rw [blen]; exact hlt) = bb[j] := rfl
          simp only [HBB.out] at this
          exact this
        have HN := Lib.hid (show unsig (b.take (j + 1)) = unsig (b.take j) * 256 + bb[j].toNat from by
          rw [List.take_succ_eq_append_getElem hjb, unsig_snoc, hg])
        have hu : unsig (b.take j) < 16777216 := by
          have h1 := HBLT.out j
          have h2 : 256 ^ j ≤ 256 ^ 3 := Nat.pow_le_pow_right (by decide) (by have := HBZ.out; omega)
          exact Nat.lt_of_lt_of_le h1 h2
        have hor := or_byte (unsig (b.take j)) bb[j] hu
        generalize unsig (b.take j) = u at hu hor HN ⊢
        have hbt : bb[j].toNat < 256 := UInt8.toNat_lt _
        generalize bb[j].toNat = v at d0 hor HN hbt
        have hu' : (u : Int) * 256 ≤ 9223372036854775807 := by omega
        clear hjb hg
        go_wp2_with fail
        go_roundw
        case measure => first | omega | (simp [RowKit.intOf]; omega)
        case rel => exact ⟨j + 1, by omega, by go_num, by rw [HN.out]; exact congrArg (Value.int .i64) (by omega), by trivial⟩
      · have hjz : j = bb.size := by omega
        have HF := Lib.hid (show b.take j = b by rw [hjz, ← blen, HBB.out, List.take_length])
        clear hjz
        go_wp2_with fail
        go_ret
        refine .inl ⟨_, s1, rfl, by rw [HF.out]; rfl, HI2.out⟩
  · go_wp2_with fail
    exact ⟨rfl, .inr ⟨rfl, rfl, hB⟩⟩

theorem IsD.drew {w0 w : World} {s : RS} (h : IsD w0 w s) : IsD w0 w.drew s := by
  obtain ⟨tv, nv, h⟩ := h
  exact ⟨tv, nv, h.drew⟩
set_option maxRecDepth 100000 in
set_option maxHeartbeats 4000000 in
theorem signed_two (w0 w : World) (s : RS) (hl : s.S.length ≤ 1000000) (h : IsD w0 w s) :
    Calls Tryz.prog 47 #[.pointer (some ⟨w0.heap.size, 0, none⟩), .int .i64 2] w (DOutN w0 (rSigned 2 s)) := by
  have HU := Lib.hid (fun w (h : IsD w0 w s) => unsigned_any w0 w s 2 (by decide) hl h)
  have HRS := Lib.hid (show rSigned 2 s = (rUnsigned 2 s).map fun p => (sgnM 2 p.1, p.2) by unfold rSigned rUnsigned; cases rTake 2 s <;> rfl)
  have HUL := Lib.hid (show ∀ n s', rUnsigned 2 s = some (n, s') → 0 ≤ n ∧ n < 65536 from by
    intro n s' e
    unfold rUnsigned at e
    cases hx : rTake 2 s with
    | none => rw [hx] at e; cases e
    | some p =>
      obtain ⟨b, s1⟩ := p
      rw [hx] at e
      simp only [Option.map_some, Option.some.injEq, Prod.mk.injEq] at e
      have hb := unsig_lt b
      rw [(take_out hx).2.1] at hb
      have hb' : unsig b < 65536 := hb
      omega)
  have H := Lib.hid h
  generalize rUnsigned 2 s = R at HU HRS HUL
  clear h hl
  rw [HRS.out]
  cases R with
  | none =>
    have hw : IntKind.i64.wrap 16 = 16 := rfl
    have hw2 : IntKind.i64.wrap 65536 = 65536 := rfl
    go_enter Tryz.func47, Tryz.ntmps47
    go_upto_region 1 with (fail)
    go_region_with ((go_at_call 50; refine (HU.out _ H.out.drew).mono ?_; rintro e w1 (⟨_, _, h, _⟩ | ⟨_, rfl, hB⟩); (cases h); (refine (fun (_ : wpAny Tryz.prog .any #[] (fun _ _ _ => True) 0 #[] { tmps := #[], defers := [] } w1) => ⟨rfl, .inr ⟨rfl, rfl, hB⟩⟩) ?_)))
    all_goals trivial
  | some p =>
    obtain ⟨n, s1⟩ := p
    have hw : IntKind.i64.wrap 16 = 16 := rfl
    have hw2 : IntKind.i64.wrap 65536 = 65536 := rfl
    go_enter Tryz.func47, Tryz.ntmps47
    go_upto_region 1 with (fail)
    go_region_with ((go_at_call 50; refine (HU.out _ H.out.drew).mono ?_; rintro e w1 (⟨_, _, h, rfl, hI⟩ | ⟨h, _, _⟩); (obtain ⟨rfl, rfl⟩ := Prod.mk.inj (Option.some.inj h))))
    have HUL := Lib.hid (HUL.out n s1 rfl)
    all_goals
      have hI2 := Lib.hid hI
      clear hI
      by_cases hc : 32768 ≤ n
      · have HSG := Lib.hid (show sgnM 2 n = n - 65536 from if_pos hc)
        have h1 := HUL.out.2
        go_wp2_with fail
        go_ret
        exact .inl ⟨_, _, rfl, by rw [HSG.out]; rfl, hI2.out⟩
      · have HSG := Lib.hid (show sgnM 2 n = n from if_neg hc)
        go_wp2_with fail
        go_ret
        exact .inl ⟨_, _, rfl, by rw [HSG.out]; rfl, hI2.out⟩
set_option maxRecDepth 100000 in
set_option maxHeartbeats 4000000 in
theorem signed_four (w0 w : World) (s : RS) (hl : s.S.length ≤ 1000000) (h : IsD w0 w s) :
    Calls Tryz.prog 47 #[.pointer (some ⟨w0.heap.size, 0, none⟩), .int .i64 4] w (DOutN w0 (rSigned 4 s)) := by
  have HU := Lib.hid (fun w (h : IsD w0 w s) => unsigned_any w0 w s 4 (by decide) hl h)
  have HRS := Lib.hid (show rSigned 4 s = (rUnsigned 4 s).map fun p => (sgnM 4 p.1, p.2) by unfold rSigned rUnsigned; cases rTake 4 s <;> rfl)
  have HUL := Lib.hid (show ∀ n s', rUnsigned 4 s = some (n, s') → 0 ≤ n ∧ n < 4294967296 from by
    intro n s' e
    unfold rUnsigned at e
    cases hx : rTake 4 s with
    | none => rw [hx] at e; cases e
    | some p =>
      obtain ⟨b, s1⟩ := p
      rw [hx] at e
      simp only [Option.map_some, Option.some.injEq, Prod.mk.injEq] at e
      have hb := unsig_lt b
      rw [(take_out hx).2.1] at hb
      have hb' : unsig b < 4294967296 := hb
      omega)
  have H := Lib.hid h
  generalize rUnsigned 4 s = R at HU HRS HUL
  clear h hl
  rw [HRS.out]
  cases R with
  | none =>
    have hw : IntKind.i64.wrap 32 = 32 := rfl
    have hw2 : IntKind.i64.wrap 4294967296 = 4294967296 := rfl
    go_enter Tryz.func47, Tryz.ntmps47
    go_upto_region 1 with (fail)
    go_region_with ((go_at_call 50; refine (HU.out _ H.out.drew).mono ?_; rintro e w1 (⟨_, _, h, _⟩ | ⟨_, rfl, hB⟩); (cases h); (refine (fun (_ : wpAny Tryz.prog .any #[] (fun _ _ _ => True) 0 #[] { tmps := #[], defers := [] } w1) => ⟨rfl, .inr ⟨rfl, rfl, hB⟩⟩) ?_)))
    all_goals trivial
  | some p =>
    obtain ⟨n, s1⟩ := p
    have hw : IntKind.i64.wrap 32 = 32 := rfl
    have hw2 : IntKind.i64.wrap 4294967296 = 4294967296 := rfl
    go_enter Tryz.func47, Tryz.ntmps47
    go_upto_region 1 with (fail)
    go_region_with ((go_at_call 50; refine (HU.out _ H.out.drew).mono ?_; rintro e w1 (⟨_, _, h, rfl, hI⟩ | ⟨h, _, _⟩); (obtain ⟨rfl, rfl⟩ := Prod.mk.inj (Option.some.inj h))))
    have HUL := Lib.hid (HUL.out n s1 rfl)
    all_goals
      have hI2 := Lib.hid hI
      clear hI
      by_cases hc : 2147483648 ≤ n
      · have HSG := Lib.hid (show sgnM 4 n = n - 4294967296 from if_pos hc)
        have h1 := HUL.out.2
        go_wp2_with fail
        go_ret
        exact .inl ⟨_, _, rfl, by rw [HSG.out]; rfl, hI2.out⟩
      · have HSG := Lib.hid (show sgnM 4 n = n from if_neg hc)
        go_wp2_with fail
        go_ret
        exact .inl ⟨_, _, rfl, by rw [HSG.out]; rfl, hI2.out⟩
end Go.Proofs.YtmofnkinclckoaaGreatDoor

namespace Go.Proofs.YtmofnkinclckoaaGreatDoor
open Go.RowKit Go.Lib Go.WideShapes

theorem signed_N {k : Nat} {n : Int} {s s' : RS} (h : rSigned k s = some (n, s')) : s'.N = s.N := by
  obtain ⟨_, _, _, _, _, _, e⟩ := signed_out h
  exact e
set_option maxRecDepth 100000 in
set_option maxHeartbeats 4000000 in
theorem short_r (w0 w : World) (s : RS) (hl : droom s ≤ 900000) (h : IsD w0 w s) :
    Calls Tryz.prog 55 #[.pointer (some ⟨w0.heap.size, 0, none⟩)] w (DOut w0 (rShort s)) := by
  have HS := Lib.hid (signed_two w0 w s (by unfold droom at hl; omega) h)
  unfold rShort
  have HO := Lib.hid (fun n s' => signed_N (k := 2) (s := s) (n := n) (s' := s'))
  have hN : s.N.length ≤ 1000000 := by unfold droom at hl; omega
  clear h hl
  generalize rSigned 2 s = R at HS HO ⊢
  go_enter Tryz.func55, Tryz.ntmps55
  go_wp2_with fail
  refine HS.out.mono ?_; rintro e w1 (⟨n, s1, rfl, rfl, hI⟩ | ⟨rfl, rfl, hB⟩)
  · have HI := Lib.hid hI
    have hNN : s1.N.length ≤ 1000000 := by rw [HO.out n s1 rfl]; exact hN
    clear hI
    go_wp2_with fail
    refine (keep_any w0 w1 s1 n hNN HI.out).mono ?_; rintro e w2 (⟨s2, h2, rfl, hI⟩ | ⟨h2, _, _⟩)
    · have HI2 := Lib.hid hI
      obtain rfl := Option.some.inj h2
      clear hI h2
      go_wp2_with fail
      go_end0
      exact .inl ⟨_, rfl, rfl, HI2.out⟩
    · cases h2
  · go_wp2_with fail
    exact ⟨rfl, .inr ⟨rfl, rfl, hB⟩⟩

set_option maxRecDepth 100000 in
set_option maxHeartbeats 4000000 in
theorem long_r (w0 w : World) (s : RS) (hl : droom s ≤ 900000) (h : IsD w0 w s) :
    Calls Tryz.prog 51 #[.pointer (some ⟨w0.heap.size, 0, none⟩)] w (DOut w0 (rLong s)) := by
  have HS := Lib.hid (signed_four w0 w s (by unfold droom at hl; omega) h)
  unfold rLong
  have HO := Lib.hid (fun n s' => signed_N (k := 4) (s := s) (n := n) (s' := s'))
  have hN : s.N.length ≤ 1000000 := by unfold droom at hl; omega
  clear h hl
  generalize rSigned 4 s = R at HS HO ⊢
  go_enter Tryz.func51, Tryz.ntmps51
  go_wp2_with fail
  refine HS.out.mono ?_; rintro e w1 (⟨n, s1, rfl, rfl, hI⟩ | ⟨rfl, rfl, hB⟩)
  · have HI := Lib.hid hI
    have hNN : s1.N.length ≤ 1000000 := by rw [HO.out n s1 rfl]; exact hN
    clear hI
    go_wp2_with fail
    refine (keep_any w0 w1 s1 n hNN HI.out).mono ?_; rintro e w2 (⟨s2, h2, rfl, hI⟩ | ⟨h2, _, _⟩)
    · have HI2 := Lib.hid hI
      obtain rfl := Option.some.inj h2
      clear hI h2
      go_wp2_with fail
      go_end0
      exact .inl ⟨_, rfl, rfl, HI2.out⟩
    · cases h2
  · go_wp2_with fail
    exact ⟨rfl, .inr ⟨rfl, rfl, hB⟩⟩
end Go.Proofs.YtmofnkinclckoaaGreatDoor
