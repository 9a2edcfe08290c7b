/- Contracts and mathematics: MTextOf, ScanM, Pb, Cur. -/
import Derived.Test.YtpijolcklmdjbaaGreatDoorZ7
import Derived.Test.YtpijolcklmdjbaaGreatDoorZ1
import Derived.Lib.Hide
namespace Go.Proofs.YtpijolcklmdjbaaGreatDoor
open Go.RowKit Go.Lib Go.WideShapes

theorem pack_small (c : UInt8) (s : ByteArray) (w : World) (hs : s.size ≤ 10000) :
    Calls Tryz.prog 39 #[.agg #[.int .u8 (c.toNat : Nat), .string s]] w fun e w' => e = .returned (.tuple #[.string (packB (c.toNat : Nat) s), .int .i64 0]) ∧ Below w.heap.size w w' := by
  by_cases h : c.toNat = 0
  · rw [h]; exact pack_bare s w hs
  · exact pack_type _ s w hs (by omega) (by have := UInt8.toNat_lt c; omega)

end Go.Proofs.YtpijolcklmdjbaaGreatDoor

namespace Go.Proofs.YtpijolcklmdjbaaGreatDoor


def blank (b : UInt8) : Bool := b == 32 || b == 9 || b == 10 || b == 13
def dg (b : UInt8) : Bool := decide (48 ≤ b) && decide (b ≤ 57)
def bw (b : UInt8) : Bool := decide (97 ≤ b) && decide (b ≤ 122) || decide (65 ≤ b) && decide (b ≤ 90) || b == 95 || decide (128 ≤ b)
def inw (b : UInt8) : Bool := bw b || dg b || b == 36
def low (b : UInt8) : UInt8 := if 65 ≤ b ∧ b ≤ 90 then b + 32 else b
def escd (b : UInt8) : UInt8 := if b = 110 then 10 else if b = 116 then 9 else if b = 114 then 13 else b

/-- What stands behind blanks and comments: in mode 0 between tokens, 1 in a comment that ends with its line, d + 2 in d comments. -/
def sk : Bs → Nat → Option Bs
  | [], m => if m ≤ 1 then some [] else none
  | a :: r, 0 => if blank a then sk r 0 else match r with
    | b :: r' => if a = 45 ∧ b = 45 then sk r' 1 else if a = 47 ∧ b = 42 then sk r' 3 else some (a :: b :: r')
    | [] => some [a]
  | a :: r, 1 => if a = 10 then sk r 0 else sk r 1
  | a :: r, d + 2 => match r with
    | b :: r' => if a = 47 ∧ b = 42 then (if d + 1 ≤ 8 then sk r' (d + 3) else none) else if a = 42 ∧ b = 47 then (if d = 1 then sk r' 0 else sk r' (d + 1)) else sk (b :: r') (d + 2)
    | [] => none

/-- How many bytes a number is. -/
def nl : Bs → Nat
  | [] => 0
  | a :: r => if dg a || a == 46 then 1 + nl r else if a == 101 || a == 69 then match r with
    | b :: r' => if dg b then 1 + nl (b :: r') else if b == 43 || b == 45 then match r' with
      | c :: r'' => if dg c then 2 + nl (c :: r'') else 0
      | [] => 0
      else 0
    | [] => 0
    else 0

/-- What stands between marks, from behind the first one on, and what is behind them. -/
def qt (mark : UInt8) (esc : Bool) : Bs → Option (Bs × Bs)
  | [] => none
  | x :: r => if esc = true ∧ x = 92 then match r with
    | [] => none
    | y :: r' => (qt mark esc r').map fun p => (escd y :: p.1, p.2)
    else if x = mark then match r with
    | y :: r' => if y = mark then (qt mark esc r').map fun p => (x :: p.1, p.2) else some ([], y :: r')
    | [] => some ([], [])
    else (qt mark esc r).map fun p => (x :: p.1, p.2)

/-- What stands in a tag, behind its first sign. -/
def tagBody : Bs → Bs
  | b :: r => if bw b then b :: r.takeWhile (fun c => bw c || dg c) else []
  | [] => []

/-- The tag that stands here. -/
def tagOf : Bs → Option Bs
  | a :: r => if a = 36 ∧ (r.drop (tagBody r).length).head? = some 36 then some (36 :: (tagBody r ++ [36])) else none
  | [] => none

/-- Where a text stands first. -/
def find (t : Bs) : Bs → Option Nat
  | [] => if t = [] then some 0 else none
  | a :: r => if t.isPrefixOf (a :: r) then some 0 else (find t r).map (· + 1)

/-- A token's kind and text, and what is behind it. -/
def token : Bs → Option (UInt8 × Bs × Bs)
  | [] => none
  | b :: r =>
    if (b = 101 ∨ b = 69) ∧ r.head? = some 39 then (qt 39 true r.tail).map fun p => (115, p.1, p.2)
    else if bw b then some (119, ((b :: r).takeWhile inw).map low, (b :: r).dropWhile inw)
    else if b = 34 then (qt 34 false r).bind fun p => if p.1 = [] then none else some (113, p.1, p.2)
    else if b = 39 then (qt 39 false r).map fun p => (115, p.1, p.2)
    else if dg b ∨ b = 46 ∧ dg (r.headD 0) then some (110, (b :: r).take (nl (b :: r)), (b :: r).drop (nl (b :: r)))
    else match tagOf (b :: r) with
      | some t => (find t ((b :: r).drop t.length)).map fun n => (115, ((b :: r).drop t.length).take n, (b :: r).drop (t.length + n + t.length))
      | none => some (111, [b], r)

structure Tok where
  kind : UInt8
  text : Bs
  lo : Nat
  hi : Nat

/-- All tokens of what is left of a text of n bytes. -/
def toks : Nat → Nat → Bs → Option (List Tok)
  | 0, _, _ => none
  | f + 1, n, l => match sk l 0 with
    | none => none
    | some [] => some []
    | some (a :: l') => match token (a :: l') with
      | none => none
      | some (k, t, r) => (toks f n r).map (⟨k, t, n - (a :: l').length, n - r.length⟩ :: ·)

def tokens (l : Bs) : Option (List Tok) := if (0 : UInt8) ∈ l then none else toks (l.length + 1) l.length l

end Go.Proofs.YtpijolcklmdjbaaGreatDoor

namespace Go.Proofs.YtpijolcklmdjbaaGreatDoor
open Go.RowKit Go.Lib Go.WideShapes

theorem grow_refl (w : World) (r : Option Nat) : w.grownBy w r := ⟨rfl, rfl, rfl, Nat.le_refl _, fun _ _ _ => rfl⟩
theorem grow_drewN (w : World) (n : Nat) (r : Option Nat) : w.grownBy (w.drewN n) r := ⟨rfl, rfl, rfl, Nat.le_refl _, fun _ _ _ => rfl⟩
theorem grow_trans {w w1 w3 : World} {r : Option Nat} (h : w.grownBy w1 r) (hg : w1.grownBy w3 r) : w.grownBy w3 r := by
  have h1 := h.size
  have h2 := hg.size
  exact ⟨hg.os.trans h.os, hg.tape.trans h.tape, hg.output.trans h.output, by omega, fun j hj hne => (hg.block j (by omega) hne).trans (h.block j hj hne)⟩
theorem grow_below {w w' : World} (h : Below w.heap.size w w') (r : Option Nat) : w.grownBy w' r := ⟨h.os, h.tape, h.output, h.size, fun k hk _ => h.block k hk⟩
/-- The byte at a place, as a number; nought behind the end. -/
def pb (s : ByteArray) (j : Nat) : Nat := (s.data.toList.getD j 0).toNat
end Go.Proofs.YtpijolcklmdjbaaGreatDoor

namespace Go.Proofs.YtpijolcklmdjbaaGreatDoor
open Go.RowKit Go.Lib Go.WideShapes

/-- The cursor in block p: at i in the text s. -/
def Cur (w : World) (p : Nat) (s : ByteArray) (i : Nat) : Prop := w.heap[p]? = some (.cells #[.string s, .int .i64 i] 129 (0, 0))

section
variable {w w' : World} {p i : Nat} {s : ByteArray}

theorem Cur.cell (h : Cur w p s i) : w.cell? ⟨p, 0, none⟩ = some (.string s) ∧ w.cell? ⟨p, 1, none⟩ = some (.int .i64 i) ∧ w.frozen? ⟨p, 1, none⟩ = false := by
  refine ⟨?_, ?_, ?_⟩
  · simp [World.cell?, show w.heap[p]? = _ from h]
  · simp [World.cell?, show w.heap[p]? = _ from h]
  · simp [World.frozen?, show w.heap[p]? = _ from h]

theorem Cur.lt (h : Cur w p s i) : p < w.heap.size := (Array.getElem?_eq_some_iff.1 h).1

theorem Cur.drewN (h : Cur w p s i) (n : Nat) : Cur (w.drewN n) p s i := h

theorem Cur.below (h : Cur w p s i) (hb : Below w.heap.size w w') : Cur w' p s i := (hb.block p h.lt).trans h

theorem Cur.set (h : Cur w p s i) (j : Nat) : Cur (w.setCell ⟨p, 1, none⟩ (.int .i64 j)) p s j ∧ w.grownBy (w.setCell ⟨p, 1, none⟩ (.int .i64 j)) (some p) := by
  refine ⟨?_, ⟨rfl, rfl, rfl, by simp [World.setCell], fun k hk hne => Below.heap_setCell _ _ _ _ (fun e => hne (by rw [e]))⟩⟩
  unfold Cur
  rw [setCell_eq_setRow w p 1 _ _ (0, 0) _ h]
  exact setRow_heap w p _ _ _ _ h
end

def dgN (n : Nat) : Bool := dg (UInt8.ofNat n)
end Go.Proofs.YtpijolcklmdjbaaGreatDoor
