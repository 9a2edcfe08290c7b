/- Contracts and mathematics: PlainTake, MTextsC, DM. -/
import Derived.Test.YtpijolcklmdjbaaGreatDoorZ7
import Derived.Test.YtpijolcklmdjbaaGreatDoorZ31
import Derived.Test.YtpijolcklmdjbaaGreatDoorZ32
import Derived.Test.YtpijolcklmdjbaaGreatDoorZ12
import Derived.Test.YtpijolcklmdjbaaGreatDoorZ3
import Derived.Deep.Cut
namespace Go.Proofs.YtpijolcklmdjbaaGreatDoor
open Go.Lib Go.RowKit

theorem append_list (a b : ByteArray) : (a ++ b).data.toList = a.data.toList ++ b.data.toList := by simp

theorem append_size (a b : ByteArray) : (a ++ b).size = a.size + b.size := by simp

/-- Is a frame of this type bare? -/
def isBare (t : Int) : Bool := decide (t = 0)

theorem pack_split (t : Int) (l : List UInt8) : ∃ hd : List UInt8, packL t l = hd ++ be4 (l.length + 4) ++ l ∧ hd.length = headN (isBare t) - 4 ∧ (t = 0 → hd = []) ∧ (¬ t = 0 → hd = [UInt8.ofNat t.toNat]) := by
  refine ⟨_, rfl, ?_, fun h => if_pos h, fun h => if_neg h⟩
  by_cases h : t = 0 <;> simp [isBare, headN, h]

theorem num_pack (t : Int) (b : ByteArray) (r : List UInt8) (s : ByteArray) (hb : b.size ≤ 10000) (hs : s.data.toList = packL t b.data.toList ++ r) :
    num s (headN (isBare t) - 4) = b.size + 4 := by
  obtain ⟨hd, h1, h2, _, _⟩ := pack_split t b.data.toList
  unfold num
  rw [hs, h1, ← h2, List.append_assoc, List.append_assoc, List.drop_left, big4_be4 _ (by rw [size_list]; omega), size_list]

theorem frameN_pack (t : Int) (b : ByteArray) (r : List UInt8) (s : ByteArray) (hb : b.size ≤ 10000) (hs : s.data.toList = packL t b.data.toList ++ r) :
    frameN s (isBare t) = (packB t b).size := by
  unfold frameN
  rw [num_pack t b r s hb hs, packB_size]
  by_cases h : t = 0 <;> simp [isBare, headN, h] <;> omega

theorem headT_pack (t : Int) (ht : 0 ≤ t ∧ t < 256) (b : ByteArray) (r : List UInt8) (s : ByteArray) (hs : s.data.toList = packL t b.data.toList ++ r) :
    ((headT s (isBare t) : Nat) : Int) = t := by
  by_cases h : t = 0
  · simp [isBare, h, headT]
  · obtain ⟨hd, h1, _, _, h4⟩ := pack_split t b.data.toList
    have e : isBare t = false := by simp [isBare, h]
    rw [headT, e, if_neg (by simp), hs, h1, h4 h]
    simp
    omega

theorem good_pack (t : Int) (ht : 0 ≤ t ∧ t < 256) (b tail s : ByteArray) (hb : b.size ≤ 10000) (h : s = packB t b ++ tail) :
    frameE s (isBare t) = 0 ∧ ((headT s (isBare t) : Nat) : Int) = t ∧ frameB s (isBare t) = b ∧ s.extract (frameN s (isBare t)) s.size = tail := by
  have hs : s.data.toList = packL t b.data.toList ++ tail.data.toList := by rw [h, append_list, packB_list]
  have hN := frameN_pack t b _ s hb hs
  have hn := num_pack t b _ s hb hs
  have hT := headT_pack t ht b _ s hs
  have hz : s.size = (packB t b).size + tail.size := by rw [h, append_size]
  have hp := packB_size t b
  have hh : headN (isBare t) = if t = 0 then 4 else 5 := by by_cases h0 : t = 0 <;> simp [isBare, headN, h0]
  refine ⟨?_, hT, ?_, ?_⟩
  · unfold frameE
    rw [hn, hN]
    rw [if_neg (by rw [hh, hz, hp]; split <;> omega), if_neg ?_, if_neg (by omega), if_neg (by omega)]
    rintro (h1 | ⟨h1, h2⟩)
    · omega
    · have : ¬ t = 0 := by simpa [isBare] using h1
      omega
  · apply bytes_ext
    obtain ⟨hd, h1, h2, _, _⟩ := pack_split t b.data.toList
    unfold frameB
    have hl : (hd ++ be4 (b.data.toList.length + 4)).length = headN (isBare t) := by
      rw [List.length_append, h2, be4_length, hh]; split <;> omega
    rw [extract_data, hs, h1, List.append_assoc, ← hl, List.drop_left, hl, hN, hp, hh]
    have e : b.size + (if t = 0 then 4 else 5) - (if t = 0 then 4 else 5) = b.data.toList.length := by rw [size_list]; omega
    rw [e, List.take_left]
  · apply bytes_ext
    rw [extract_data, hs, hN, ← packB_list, ← size_list (packB t b), List.drop_left]
    apply List.take_of_length_le
    rw [size_list, size_list]
    omega

end Go.Proofs.YtpijolcklmdjbaaGreatDoor

namespace Go.Proofs.YtpijolcklmdjbaaGreatDoor
open Go.RowKit Go.Lib Go.WideShapes

def q1 (s : ByteArray) : ByteArray := if (0 : UInt8) ∈ bytes s then { data := #[] } else packB 81 ⟨(bytes s ++ [0]).toArray⟩
def e1 (s : ByteArray) : Int := if (0 : UInt8) ∈ bytes s then 1 else 0
def q2 (s t : ByteArray) : ByteArray := if (0 : UInt8) ∈ bytes s then { data := #[] } else if (0 : UInt8) ∈ bytes t then { data := #[] } else packB 83 ⟨(bytes s ++ [0] ++ (bytes t ++ [0])).toArray⟩
def e2 (s t : ByteArray) : Int := if (0 : UInt8) ∈ bytes s then 1 else if (0 : UInt8) ∈ bytes t then 1 else 0

end Go.Proofs.YtpijolcklmdjbaaGreatDoor

namespace Go.Proofs.YtpijolcklmdjbaaGreatDoor
open Go.RowKit Go.Lib Go.WideShapes

def tcells (T : List Bs) : List Value := T.map fun t => .string ⟨t.toArray⟩
def ncells (N : List Int) : List Value := N.map fun n => .int .i64 n
theorem tcells_append (a b : List Bs) : tcells (a ++ b) = tcells a ++ tcells b := by simp [tcells]
theorem ncells_append (a b : List Int) : ncells (a ++ b) = ncells a ++ ncells b := by simp [ncells]

/-- A reader that was made behind w0. -/
structure DAt (w0 w : World) (s : RS) (tv nv : Value) : Prop where
  below : Below w0.heap.size w0 w
  lt : w0.heap.size < w.heap.size
  c0 : w.cell? ⟨w0.heap.size, 0, none⟩ = some (.string ⟨s.S.toArray⟩)
  c1 : w.cell? ⟨w0.heap.size, 1, none⟩ = some tv
  c2 : w.cell? ⟨w0.heap.size, 2, none⟩ = some nv
  f0 : w.frozen? ⟨w0.heap.size, 0, none⟩ = false
  f1 : w.frozen? ⟨w0.heap.size, 1, none⟩ = false
  f2 : w.frozen? ⟨w0.heap.size, 2, none⟩ = false
  texts : w.ownsRow (w0.heap.size + 1) 9 1 tv s.T.length (tcells s.T)
  nums : w.ownsRow (w0.heap.size + 1) 3 1 nv s.N.length (ncells s.N)
def IsD (w0 w : World) (s : RS) : Prop := ∃ tv nv, DAt w0 w s tv nv

/-- What an operation of a reader leaves. -/
def DOut (w0 : World) (r : Option RS) (e : Ending) (w' : World) : Prop := (∃ s', r = some s' ∧ e = .returned (.tuple #[]) ∧ IsD w0 w' s') ∨ (r = none ∧ Lost w0 e w')
def DOutN (w0 : World) (r : Option (Int × RS)) (e : Ending) (w' : World) : Prop := (∃ n s', r = some (n, s') ∧ e = .returned (.int .i64 n) ∧ IsD w0 w' s') ∨ (r = none ∧ Lost w0 e w')
def DOutS (w0 : World) (r : Option (Bs × RS)) (e : Ending) (w' : World) : Prop := (∃ b s', r = some (b, s') ∧ e = .returned (.string ⟨b.toArray⟩) ∧ IsD w0 w' s') ∨ (r = none ∧ Lost w0 e w')

theorem DAt.put0 {w0 w : World} {s : RS} {tv nv : Value} (h : DAt w0 w s tv nv) (S : Bs) : DAt w0 (w.setCell ⟨w0.heap.size, 0, none⟩ (.string ⟨S.toArray⟩)) { s with S := S } tv nv := by
  have n1 : (⟨w0.heap.size, 0, none⟩ : Addr) ≠ ⟨w0.heap.size, 1, none⟩ := by intro e; injection e with _ e; cases e
  have n2 : (⟨w0.heap.size, 0, none⟩ : Addr) ≠ ⟨w0.heap.size, 2, none⟩ := by intro e; injection e with _ e; cases e
  exact ⟨h.below.setCell (Nat.le_refl _) _, by rw [World.size_setCell]; exact h.lt, World.cell?_setCell_same _ _ _ h.c0, (World.cell?_setCell_other _ _ _ _ n1).trans h.c1, (World.cell?_setCell_other _ _ _ _ n2).trans h.c2, by rw [World.frozen?_setCell]; exact h.f0, by rw [World.frozen?_setCell]; exact h.f1, by rw [World.frozen?_setCell]; exact h.f2, own_other h.texts, own_other h.nums⟩
theorem DAt.drew {w0 w : World} {s : RS} {tv nv : Value} (h : DAt w0 w s tv nv) : DAt w0 w.drew s tv nv :=
  ⟨h.below.drew, h.lt, h.c0, h.c1, h.c2, h.f0, h.f1, h.f2, h.texts.drew, h.nums.drew⟩
theorem DAt.drewN {w0 w : World} {s : RS} {tv nv : Value} (h : DAt w0 w s tv nv) (n : Nat) : DAt w0 (w.drewN n) s tv nv :=
  ⟨below_drewN h.below n, h.lt, h.c0, h.c1, h.c2, h.f0, h.f1, h.f2, h.texts, h.nums⟩
/-- Two rows of other types lie in other blocks. -/
theorem own_apart {w : World} {b1 b2 : Nat} {e1 e2 : TypeId} {v1 v2 : Value} {n1 n2 : Nat} {xs1 xs2 : List Value} (h1 : w.ownsRow b1 e1 1 v1 n1 xs1) (h2 : w.ownsRow b2 e2 1 v2 n2 xs2) (hne : e1 ≠ e2) : v2.ownBlock = none ∨ v2.ownBlock ≠ v1.ownBlock := by
  rcases h2.2 with ⟨hv, _⟩ | ⟨g, cap, cur, hv, _, hg, _⟩
  · left; rw [hv]; rfl
  · right
    rcases h1.2 with ⟨hv1, _⟩ | ⟨g1, cap1, cur1, hv1, _, hg1, _⟩
    · rw [hv, hv1]; intro e; cases e
    · rw [hv, hv1]
      intro e
      have e' : g = g1 := Option.some.inj e
      subst e'
      rw [hg] at hg1
      injection hg1 with hg1
      injection hg1 with _ ht _
      exact hne ht.symm
/-- The world grew but for the row of texts: then the cell of the texts was written. -/
theorem DAt.put1 {w0 w w1 : World} {s : RS} {tv nv tv' : Value} {T : List Bs} (h : DAt w0 w s tv nv) (hB : Below (w0.heap.size + 1) w w1) (hb : w1.ownsRow (w0.heap.size + 1) 9 1 tv' T.length (tcells T)) (hn : w1.ownsRow (w0.heap.size + 1) 3 1 nv s.N.length (ncells s.N)) : DAt w0 (w1.setCell ⟨w0.heap.size, 1, none⟩ tv') { s with T := T } tv' nv := by
  have n0 : (⟨w0.heap.size, 1, none⟩ : Addr) ≠ ⟨w0.heap.size, 0, none⟩ := by intro e; injection e with _ e; cases e
  have n2 : (⟨w0.heap.size, 1, none⟩ : Addr) ≠ ⟨w0.heap.size, 2, none⟩ := by intro e; injection e with _ e; cases e
  have k : ∀ i, w1.cell? ⟨w0.heap.size, i, none⟩ = w.cell? ⟨w0.heap.size, i, none⟩ := fun i => hB.cell (p := ⟨w0.heap.size, i, none⟩) (Nat.lt_succ_self _)
  have f : ∀ i, w1.frozen? ⟨w0.heap.size, i, none⟩ = w.frozen? ⟨w0.heap.size, i, none⟩ := fun i => hB.frozen (p := ⟨w0.heap.size, i, none⟩) (Nat.lt_succ_self _)
  exact ⟨(h.below.trans (hB.mono (Nat.le_succ _))).setCell (Nat.le_refl _) _, by rw [World.size_setCell]; exact Nat.lt_of_lt_of_le h.lt hB.size, (World.cell?_setCell_other _ _ _ _ n0).trans ((k 0).trans h.c0), World.cell?_setCell_same _ _ _ ((k 1).trans h.c1), (World.cell?_setCell_other _ _ _ _ n2).trans ((k 2).trans h.c2), by rw [World.frozen?_setCell]; exact (f 0).trans h.f0, by rw [World.frozen?_setCell]; exact (f 1).trans h.f1, by rw [World.frozen?_setCell]; exact (f 2).trans h.f2, own_other hb, own_other hn⟩
theorem DAt.put2 {w0 w w1 : World} {s : RS} {tv nv nv' : Value} {N : List Int} (h : DAt w0 w s tv nv) (hB : Below (w0.heap.size + 1) w w1) (ht : w1.ownsRow (w0.heap.size + 1) 9 1 tv s.T.length (tcells s.T)) (hb : w1.ownsRow (w0.heap.size + 1) 3 1 nv' N.length (ncells N)) : DAt w0 (w1.setCell ⟨w0.heap.size, 2, none⟩ nv') { s with N := N } tv nv' := by
  have n0 : (⟨w0.heap.size, 2, none⟩ : Addr) ≠ ⟨w0.heap.size, 0, none⟩ := by intro e; injection e with _ e; cases e
  have n1 : (⟨w0.heap.size, 2, none⟩ : Addr) ≠ ⟨w0.heap.size, 1, none⟩ := by intro e; injection e with _ e; cases e
  have k : ∀ i, w1.cell? ⟨w0.heap.size, i, none⟩ = w.cell? ⟨w0.heap.size, i, none⟩ := fun i => hB.cell (p := ⟨w0.heap.size, i, none⟩) (Nat.lt_succ_self _)
  have f : ∀ i, w1.frozen? ⟨w0.heap.size, i, none⟩ = w.frozen? ⟨w0.heap.size, i, none⟩ := fun i => hB.frozen (p := ⟨w0.heap.size, i, none⟩) (Nat.lt_succ_self _)
  exact ⟨(h.below.trans (hB.mono (Nat.le_succ _))).setCell (Nat.le_refl _) _, by rw [World.size_setCell]; exact Nat.lt_of_lt_of_le h.lt hB.size, (World.cell?_setCell_other _ _ _ _ n0).trans ((k 0).trans h.c0), (World.cell?_setCell_other _ _ _ _ n1).trans ((k 1).trans h.c1), World.cell?_setCell_same _ _ _ ((k 2).trans h.c2), by rw [World.frozen?_setCell]; exact (f 0).trans h.f0, by rw [World.frozen?_setCell]; exact (f 1).trans h.f1, by rw [World.frozen?_setCell]; exact (f 2).trans h.f2, own_other ht, own_other hb⟩

theorem string_ne_int : 9 ≠ 3 := by decide

theorem DAt.rowT {w0 w w1 : World} {s : RS} {tv nv : Value} {o : Obj} (h : DAt w0 w s tv nv) (hg : (w.alloc o).grownBy w1 nv.ownBlock) : w1.ownsRow (w0.heap.size + 1) 9 1 tv s.T.length (tcells s.T) :=
  (h.texts.alloc o).kept hg (own_apart (h.nums.alloc o) (h.texts.alloc o) string_ne_int.symm)
theorem DAt.rowN {w0 w w1 : World} {s : RS} {tv nv : Value} {o : Obj} (h : DAt w0 w s tv nv) (hg : (w.alloc o).grownBy w1 tv.ownBlock) : w1.ownsRow (w0.heap.size + 1) 3 1 nv s.N.length (ncells s.N) :=
  (h.nums.alloc o).kept hg (own_apart (h.texts.alloc o) (h.nums.alloc o) string_ne_int)
theorem DAt.grewN {w0 w w1 : World} {s : RS} {tv nv : Value} {o : Obj} (h : DAt w0 w s tv nv) (hg : (w.alloc o).grownBy w1 nv.ownBlock) : Below (w0.heap.size + 1) w w1 :=
  below_grown ((Below.refl (w0.heap.size + 1) w).alloc h.lt _) (by rw [World.size_alloc]; exact Nat.le_succ_of_le h.lt) hg (fun q hq => (h.nums.lt q hq).1)
theorem DAt.grewT {w0 w w1 : World} {s : RS} {tv nv : Value} {o : Obj} (h : DAt w0 w s tv nv) (hg : (w.alloc o).grownBy w1 tv.ownBlock) : Below (w0.heap.size + 1) w w1 :=
  below_grown ((Below.refl (w0.heap.size + 1) w).alloc h.lt _) (by rw [World.size_alloc]; exact Nat.le_succ_of_le h.lt) hg (fun q hq => (h.texts.lt q hq).1)
theorem DAt.afterN {w0 w w1 : World} {s : RS} {tv nv : Value} (h : DAt w0 w s tv nv) (hB : Below (w0.heap.size + 1) w w1) : (w1.cell? ⟨w0.heap.size, 2, none⟩ = some nv ∧ w1.frozen? ⟨w0.heap.size, 2, none⟩ = false) ∧ (w1.cell? ⟨w0.heap.size, 1, none⟩ = some tv ∧ w1.frozen? ⟨w0.heap.size, 1, none⟩ = false) ∧ w0.heap.size < w1.heap.size :=
  ⟨⟨(hB.cell (p := ⟨w0.heap.size, 2, none⟩) (Nat.lt_succ_self _)).trans h.c2, (hB.frozen (p := ⟨w0.heap.size, 2, none⟩) (Nat.lt_succ_self _)).trans h.f2⟩, ⟨(hB.cell (p := ⟨w0.heap.size, 1, none⟩) (Nat.lt_succ_self _)).trans h.c1, (hB.frozen (p := ⟨w0.heap.size, 1, none⟩) (Nat.lt_succ_self _)).trans h.f1⟩, Nat.lt_of_lt_of_le h.lt hB.size⟩
/-- A world that left all up to the reader as it was, and its rows. -/
theorem DAt.grow {w0 w w' : World} {s : RS} {tv nv : Value} (h : DAt w0 w s tv nv) (hb : Below w.heap.size w w') : DAt w0 w' s tv nv := by
  have hb1 : Below (w0.heap.size + 1) w w' := hb.mono h.lt
  have k : ∀ i, w'.cell? ⟨w0.heap.size, i, none⟩ = w.cell? ⟨w0.heap.size, i, none⟩ := fun i => hb1.cell (p := ⟨w0.heap.size, i, none⟩) (Nat.lt_succ_self _)
  have f : ∀ i, w'.frozen? ⟨w0.heap.size, i, none⟩ = w.frozen? ⟨w0.heap.size, i, none⟩ := fun i => hb1.frozen (p := ⟨w0.heap.size, i, none⟩) (Nat.lt_succ_self _)
  exact ⟨h.below.trans (hb1.mono (Nat.le_succ _)), Nat.lt_of_lt_of_le h.lt hb.size, (k 0).trans h.c0, (k 1).trans h.c1, (k 2).trans h.c2, (f 0).trans h.f0, (f 1).trans h.f1, (f 2).trans h.f2, own_grown h.texts hb (Nat.le_refl _), own_grown h.nums hb (Nat.le_refl _)⟩

/-- How much there can be yet. -/
def droom (s : RS) : Nat := s.S.length + (s.T.length + s.N.length)

theorem take_list (S : Bs) (n : Nat) : (⟨S.toArray⟩ : ByteArray).extract 0 n = ⟨(S.take n).toArray⟩ := by
  apply ByteArray.ext; apply Array.toList_inj.1
  simp [ByteArray.data_extract]
theorem drop_list (S : Bs) (n : Nat) : (⟨S.toArray⟩ : ByteArray).extract n (⟨S.toArray⟩ : ByteArray).size = ⟨(S.drop n).toArray⟩ := by
  apply ByteArray.ext; apply Array.toList_inj.1
  rw [bsize]
  simp [ByteArray.data_extract, List.take_of_length_le]

/-- What taking leaves, the rows where they were. -/
def TakeAt (w0 : World) (tv nv : Value) (r : Option (Bs × RS)) (e : Ending) (w' : World) : Prop := (∃ b s', r = some (b, s') ∧ e = .returned (.string ⟨b.toArray⟩) ∧ DAt w0 w' s' tv nv) ∨ (r = none ∧ Lost w0 e w')
set_option maxRecDepth 100000 in
set_option maxHeartbeats 4000000 in
theorem take_at (w0 w : World) (s : RS) (tv nv : Value) (n : Nat) (hl : s.S.length ≤ 1000000) (hW : DAt w0 w s tv nv) :
    Calls Tryz.prog 106 #[.pointer (some ⟨w0.heap.size, 0, none⟩), .int .i64 n] w (TakeAt w0 tv nv (rTake n s)) := by
  have c0 := hW.c0
  have f0 := hW.f0
  have HW := Lib.hid hW
  clear hW
  by_cases hn : n ≤ s.S.length
  · have HR := Lib.hid (show rTake n s = some (s.S.take n, { s with S := s.S.drop n }) from if_pos hn)
    rw [HR.out]
    have HP := Lib.hid (HW.out.put0 (s.S.drop n))
    rw [← drop_list] at HP
    have HT := Lib.hid (take_list s.S n)
    obtain ⟨sb, hsb⟩ : ∃ sb : ByteArray, sb = ⟨s.S.toArray⟩ := ⟨_, rfl⟩
    have hsz : sb.size = s.S.length := by rw [hsb, bsize]
    rw [← hsb] at c0 HP HT
    have h1 : (n : Int) ≤ sb.size := by omega
    have h2 : sb.size ≤ 1000000 := by omega
    have HSZ := Lib.hid hsz
    clear hsb HR hn hl hsz
    go_enter Tryz.func106, Tryz.ntmps106
    go_wp2_with fail
    refine (demand_ok _).mono ?_; rintro e w1 ⟨rfl, rfl⟩
    go_wp2_with fail
    go_ret
    refine .inl ⟨_, _, rfl, by rw [← HT.out]; rfl, HP.out⟩
  · have HR := Lib.hid (show rTake n s = none from if_neg hn)
    rw [HR.out]
    obtain ⟨sb, hsb⟩ : ∃ sb : ByteArray, sb = ⟨s.S.toArray⟩ := ⟨_, rfl⟩
    have hsz : sb.size = s.S.length := by rw [hsb, bsize]
    rw [← hsb] at c0
    have h1 : ¬ (n : Int) ≤ sb.size := by omega
    have h3 : decide ((n : Int) ≤ sb.size) = false := decide_eq_false h1
    have HSZ := Lib.hid hsz
    clear hsb HR hn hl hsz
    go_enter Tryz.func106, Tryz.ntmps106
    go_wp2_with fail
    refine (demand_no _).mono ?_; rintro e w1 ⟨rfl, rfl⟩
    go_wp2_with fail
    exact ⟨rfl, .inr ⟨rfl, rfl, HW.out.below⟩⟩
theorem take_anyM (w0 w : World) (s : RS) (n : Nat) (hl : s.S.length ≤ 1000000) (h : IsD w0 w s) :
    Calls Tryz.prog 106 #[.pointer (some ⟨w0.heap.size, 0, none⟩), .int .i64 n] w (DOutS w0 (rTake n s)) := by
  obtain ⟨tv, nv, hW⟩ := h
  refine (take_at w0 w s tv nv n hl hW).mono ?_
  rintro e w' (⟨b, s', h1, h2, h3⟩ | ⟨h1, h2⟩)
  · exact .inl ⟨b, s', h1, h2, tv, nv, h3⟩
  · exact .inr ⟨h1, h2⟩
end Go.Proofs.YtpijolcklmdjbaaGreatDoor
