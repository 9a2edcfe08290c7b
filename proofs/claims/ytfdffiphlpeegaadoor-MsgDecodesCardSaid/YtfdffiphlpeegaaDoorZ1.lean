/- Contracts and mathematics: Frame, Bytes, MM, MRM, MRP. -/
import Derived.Test.YtfdffiphlpeegaaDoorRows
import Derived.WalkKit
import Derived.ProofKit
import Derived.OpenShut
import Derived.Carry
import Derived.JoinedOf
import Derived.Lib.SmallJoins
import Derived.Lib.Hide
namespace Go.Proofs.YtfdffiphlpeegaaDoor
open Go.ChangeShapes Go.WideShapes Go.ChangeAt Go.RowKit

theorem own : ownKnob Tryd.prog.godebug = none := by kernel_rfl
theorem laidOut : laidOutB Tryd.prog = true := by kernel_rfl

theorem byte_range {a : Int} (h : (Lit.int .u8 a).wf = true) : 0 ≤ a ∧ a < 256 := by
  have : 0 ≤ a ∧ a ≤ 255 := by simpa [Lit.wf, IntKind.min, IntKind.max, IntKind.signed, IntKind.bits] using h
  omega

theorem int_range {a : Int} (h : (Lit.int .i64 a).wf = true) : -9223372036854775808 ≤ a ∧ a ≤ 9223372036854775807 := by
  simpa [Lit.wf, IntKind.min, IntKind.max, IntKind.signed, IntKind.bits] using h

/-- One closed fact: each parameter's type can be read and is a row of the table. -/
def rowed (P : Program) (ts : List TypeId) : Bool := ts.all fun t => P.readableRec t && decide (t < P.types.size)

theorem trodAll_below {H : Type} {enc : TypeId × Value → H} {P : Program} (hl : laidOutB P = true) {W W' : World} (hb : Below W.heap.size W W') :
    ∀ {ts : List TypeId} {vs : List Value} {ds : List (DataW H)} {ps : List MemPlace}, rowed P ts = true → DataW.TrodAll enc P W 0 (fun _ => true) true ts vs ds ps → (∀ x ∈ ps, x.block < W.heap.size) →
      DataW.TrodAll enc P W' 0 (fun b => decide (b < W.heap.size)) true ts vs ds ps
  | [], [], [], _, _, h, _ => h
  | [], _ :: _, _, _, _, h, _ => h.elim
  | [], [], _ :: _, _, _, h, _ => h.elim
  | _ :: _, [], _, _, _, h, _ => h.elim
  | _ :: _, _ :: _, [], _, _, h, _ => h.elim
  | t :: ts, v :: vs, d :: ds, ps, hr, h, hlt => by
    obtain ⟨p, q, h1, h2, rfl⟩ := h
    simp only [rowed, List.all_cons, Bool.and_eq_true, decide_eq_true_eq] at hr
    refine ⟨p, q, Below.trod hl hr.1.1 hr.1.2 h1 hb (fun x hx => hlt x (by simp [hx])), trodAll_below hl hb ?_ h2 (fun x hx => hlt x (by simp [hx])), rfl⟩
    simpa [rowed] using hr.2

theorem trodAll_five {H : Type} {enc : TypeId × Value → H} {P : Program} {w : World} {base : Nat} {spare : Nat → Bool} {held : Bool} {t0 t1 t2 t3 t4 : TypeId} {args : Array Value} {ds : List (DataW H)} {ps : List MemPlace} (h : DataW.TrodAll enc P w base spare held [t0, t1, t2, t3, t4] args.toList ds ps) :
    ∃ v0 v1 v2 v3 v4 d0 d1 d2 d3 d4 p0 p1 p2 p3 p4, args = #[v0, v1, v2, v3, v4] ∧ ds = [d0, d1, d2, d3, d4] ∧ ps = p0 ++ p1 ++ p2 ++ p3 ++ p4 ∧ DataW.Trod enc P w base spare held t0 v0 d0 p0 ∧ DataW.Trod enc P w base spare held t1 v1 d1 p1 ∧ DataW.Trod enc P w base spare held t2 v2 d2 p2 ∧ DataW.Trod enc P w base spare held t3 v3 d3 p3 ∧ DataW.Trod enc P w base spare held t4 v4 d4 p4 := by
  obtain ⟨v0, vs0, d0, ds0, p0, q0, hargs, rfl, rfl, h0, r0⟩ := trodAll_cons h
  obtain ⟨v1, vs1, d1, ds1, p1, q1, rfl, rfl, rfl, h1, r1⟩ := trodAll_cons r0
  obtain ⟨v2, vs2, d2, ds2, p2, q2, rfl, rfl, rfl, h2, r2⟩ := trodAll_cons r1
  obtain ⟨v3, vs3, d3, ds3, p3, q3, rfl, rfl, rfl, h3, r3⟩ := trodAll_cons r2
  obtain ⟨v4, vs4, d4, ds4, p4, q4, rfl, rfl, rfl, h4, r4⟩ := trodAll_cons r3
  obtain ⟨rfl, rfl, rfl⟩ := trodAll_nil r4
  exact ⟨v0, v1, v2, v3, v4, d0, d1, d2, d3, d4, p0, p1, p2, p3, p4, by cases args; simp_all, rfl, by simp, h0, h1, h2, h3, h4⟩

/-- The law's end. -/
theorem law_shut {H : Type} {enc : TypeId × Value → H} {P : Program} {f : Func} {s : ChangeSpec} {W W' : World} {args : Array Value} {ds gs : List (DataW H)} {before : List MemPlace} {tb : TypeId}
    (hl : laidOutB P = true) (hr : rowed P f.params.toList = true) (hres : f.resultTypes = #[tb]) (hbool : P.underlying tb = some .bool) (hv : s.vars = [])
    (hW : DataW.Whole enc P f.params.toList s.vars false W args.toList ds gs before) (hfn : s.fn H (ds ++ gs) = { results := [.lit (.bool true)], args := ds }) (hb : Below W.heap.size W W') :
    s.post enc P f false true false false W args (.bool true) W' := by
  have hW' := hW
  obtain ⟨p, q, hA, hV, rfl, _, _⟩ := hW
  rw [hv] at hV
  obtain ⟨rfl, rfl⟩ := trodVars_none hV
  have hlt : ∀ x ∈ p, x.block < W.heap.size := fun x hx => hW'.lt x (by simp [hx])
  refine ⟨ds, [], p ++ [], [], p, [], hW', ?_, ?_, ?_, hb.frame _, fun h => by cases h⟩
  · rw [hfn, hres]
    exact trodAll_mk1 (shut_bool hbool _)
  · rw [hfn]
    exact trodAll_below hl hb hr hA hlt
  · rw [hfn, hv]
    rfl
end Go.Proofs.YtfdffiphlpeegaaDoor

namespace Go.Proofs.YtfdffiphlpeegaaDoor

abbrev Bs := List UInt8
abbrev bytes (s : ByteArray) : Bs := s.data.toList
theorem bytes_len (s : ByteArray) : (bytes s).length = s.size := by simp [bytes]
theorem blen (s : ByteArray) : (bytes s).length = s.size := bytes_len s
theorem bsize (a : Bs) : (⟨a.toArray⟩ : ByteArray).size = a.length := by simp [ByteArray.size]
end Go.Proofs.YtfdffiphlpeegaaDoor

namespace Go.Proofs.YtfdffiphlpeegaaDoor


/-- What is left of a message's texts and numbers, and the body so far. -/
structure WS where
  T : List Bs
  N : List Int
  B : Bs

/-- The byte of a number at a place. -/
def byteAt (n : Int) (i : Nat) : UInt8 := UInt8.ofNat ((n / (256 ^ i : Nat)) % 256).toNat
/-- A number in so many bytes, the greatest first. -/
def be : Nat → Int → Bs
  | 0, _ => []
  | k + 1, n => byteAt n k :: be k n
theorem be_length : ∀ (k : Nat) (n : Int), (be k n).length = k
  | 0, _ => rfl
  | k + 1, n => by rw [be, List.length_cons, be_length k n]

def wNum (l m : Int) (s : WS) : Option (Int × WS) := match s.N with
  | [] => none
  | n :: ns => if l ≤ n ∧ n ≤ m then some (n, { s with N := ns }) else none
def wNumber (l m : Int) (k : Nat) (s : WS) : Option (Int × WS) := (wNum l m s).map fun p => (p.1, { p.2 with B := p.2.B ++ be k p.1 })
def wZero (s : WS) : WS := { s with B := s.B ++ [0] }
def wText (s : WS) : Option WS := match s.T with
  | [] => none
  | t :: ts => if (0 : UInt8) ∈ t then none else some { s with T := ts, B := s.B ++ (t ++ [0]) }
def rep : Nat → (WS → Option WS) → WS → Option WS
  | 0, _, s => some s
  | n + 1, f, s => (f s).bind (rep n f)
def wPair (s : WS) : Option WS := match s.T with
  | [] => none
  | t :: _ => if t = [] then none else wText s
def wPairs (s : WS) : Option WS := (wNum 0 s.T.length s).bind fun p => if p.1 % 2 = 0 then (rep p.1.toNat wPair p.2).map wZero else none
def wItem (s : WS) : Option WS := (wNumber 1 255 1 s).bind fun p => wText p.2
def wFields (s : WS) : Option WS := (wNum 0 s.T.length s).bind fun p => (rep p.1.toNat wItem p.2).map wZero
def wCounted (f : WS → Option WS) (s : WS) : Option WS := (wNumber 0 100 2 s).bind fun p => rep p.1.toNat f p.2
def wShort (s : WS) : Option WS := (wNumber (-32768) 32767 2 s).map (·.2)
def wLong (s : WS) : Option WS := (wNumber (-2147483648) 2147483647 4 s).map (·.2)
def wByte (s : WS) : Option WS := (wNumber 0 255 1 s).map (·.2)
def wRaw (n : Int) (s : WS) : Option WS := match s.T with
  | [] => none
  | t :: ts => if (t.length : Int) = n then some { s with T := ts, B := s.B ++ t } else none
def wValue (s : WS) : Option WS := (wNumber (-1) 10000 4 s).bind fun p => if p.1 < 0 then some p.2 else wRaw p.1 p.2
def wName (s : WS) : Option WS := (wText s).map fun s => { s with B := s.B ++ List.replicate 18 0 }
/-- One field. -/
def wField (c : UInt8) (s : WS) : Option WS :=
  if c = 115 then wText s
  else if c = 98 then wByte s
  else if c = 105 then wLong s
  else if c = 112 then wPairs s
  else if c = 102 then wFields s
  else if c = 99 then wCounted wShort s
  else if c = 108 then wCounted wLong s
  else if c = 118 then wCounted wValue s
  else if c = 109 then wCounted wName s
  else some s
def wAll : Bs → WS → Option WS
  | [], s => some s
  | c :: l, s => (wField c s).bind (wAll l)

/-- How much there can be yet. -/
def room (s : WS) : Nat := s.B.length + ((s.T.map fun t => t.length + 19).sum + 4 * s.N.length)

theorem room_num {l m n : Int} {s s' : WS} (h : wNum l m s = some (n, s')) : s'.B = s.B ∧ s'.T = s.T ∧ room s' + 4 = room s := by
  unfold wNum at h
  cases hN : s.N with
  | nil => rw [hN] at h; cases h
  | cons x ns =>
    rw [hN] at h
    simp only at h
    split at h
    · simp only [Option.some.injEq, Prod.mk.injEq] at h
      obtain ⟨rfl, rfl⟩ := h
      refine ⟨rfl, rfl, ?_⟩
      unfold room
      rw [hN, List.length_cons]
      show s.B.length + ((s.T.map fun t => t.length + 19).sum + 4 * ns.length) + 4 = _
      omega
    · cases h
theorem room_number {l m n : Int} {k : Nat} {s s' : WS} (h : wNumber l m k s = some (n, s')) (hk : k ≤ 4) : room s' ≤ room s ∧ s'.T = s.T := by
  unfold wNumber at h
  cases hN : wNum l m s with
  | none => rw [hN] at h; cases h
  | some p =>
    obtain ⟨x, s1⟩ := p
    rw [hN] at h
    simp only [Option.map_some, Option.some.injEq, Prod.mk.injEq] at h
    obtain ⟨rfl, rfl⟩ := h
    obtain ⟨h1, h2, h3⟩ := room_num hN
    refine ⟨?_, h2⟩
    unfold room at h3 ⊢
    show (s1.B ++ be k x).length + _ ≤ _
    rw [List.length_append, be_length]
    show s1.B.length + k + ((s1.T.map fun t => t.length + 19).sum + 4 * s1.N.length) ≤ _
    omega
theorem num_range {l m n : Int} {s s' : WS} (h : wNum l m s = some (n, s')) : l ≤ n ∧ n ≤ m := by
  unfold wNum at h
  cases hN : s.N with
  | nil => rw [hN] at h; cases h
  | cons x ns =>
    rw [hN] at h
    simp only at h
    split at h
    · rename_i hc
      have e := (Prod.mk.inj (Option.some.inj h)).1
      subst e; exact hc
    · cases h
theorem number_range {l m n : Int} {k : Nat} {s s' : WS} (h : wNumber l m k s = some (n, s')) : l ≤ n ∧ n ≤ m := by
  unfold wNumber at h
  cases hN : wNum l m s with
  | none => rw [hN] at h; cases h
  | some p =>
    obtain ⟨x, s1⟩ := p
    rw [hN] at h
    simp only [Option.map_some, Option.some.injEq, Prod.mk.injEq] at h
    obtain ⟨rfl, _⟩ := h
    exact num_range hN
theorem room_text {s s' : WS} (h : wText s = some s') : room s' + 18 ≤ room s := by
  unfold wText at h
  cases hT : s.T with
  | nil => rw [hT] at h; cases h
  | cons t ts =>
    rw [hT] at h
    simp only at h
    split at h
    · cases h
    · obtain rfl := Option.some.inj h
      unfold room
      rw [hT, List.map_cons, List.sum_cons]
      show (s.B ++ (t ++ [0])).length + ((ts.map fun t => t.length + 19).sum + 4 * s.N.length) + 18 ≤ _
      rw [List.length_append, List.length_append]
      show s.B.length + (t.length + 1) + _ + 18 ≤ _
      omega
theorem room_zero (s : WS) : room (wZero s) = room s + 1 := by
  unfold room wZero
  show (s.B ++ [0]).length + _ = _
  rw [List.length_append]
  show s.B.length + 1 + ((s.T.map fun t => t.length + 19).sum + 4 * s.N.length) = _
  omega
theorem room_rep {f : WS → Option WS} (hf : ∀ s s', f s = some s' → room s' ≤ room s) : ∀ (n : Nat) (s s' : WS), rep n f s = some s' → room s' ≤ room s := by
  intro n
  induction n with
  | zero => intro s s' h; obtain rfl := Option.some.inj h; exact Nat.le_refl _
  | succ n ih =>
    intro s s' h
    rw [rep] at h
    cases hx : f s with
    | none => rw [hx] at h; cases h
    | some s1 =>
      rw [hx] at h
      exact Nat.le_trans (ih s1 s' h) (hf s s1 hx)
theorem rep_succ (n : Nat) (f : WS → Option WS) (s : WS) : rep (n + 1) f s = (rep n f s).bind f := by
  induction n generalizing s with
  | zero =>
    show (f s).bind (rep 0 f) = f s
    cases f s <;> rfl
  | succ n ih =>
    rw [rep, rep]
    cases f s with
    | none => rfl
    | some s1 => exact ih s1
end Go.Proofs.YtfdffiphlpeegaaDoor

namespace Go.Proofs.YtfdffiphlpeegaaDoor

/-- What is left of a body, and the texts and numbers so far. -/
structure RS where
  S : Bs
  T : List Bs
  N : List Int

def unsig : Bs → Nat
  | [] => 0
  | b :: l => b.toNat * 256 ^ l.length + unsig l
theorem unsig_lt : ∀ l : Bs, unsig l < 256 ^ l.length
  | [] => Nat.one_pos
  | b :: l => by
    have h1 := unsig_lt l
    have h2 : b.toNat < 256 := UInt8.toNat_lt b
    have h3 : b.toNat * 256 ^ l.length ≤ 255 * 256 ^ l.length := Nat.mul_le_mul_right _ (by omega)
    rw [unsig, List.length_cons, Nat.pow_succ]
    omega
theorem unsig_snoc : ∀ (l : Bs) (b : UInt8), unsig (l ++ [b]) = unsig l * 256 + b.toNat
  | [], b => by simp [unsig]
  | a :: l, b => by
    rw [List.cons_append, unsig, unsig_snoc l b, unsig, List.length_append, List.length_singleton, Nat.pow_succ, Nat.add_mul, Nat.mul_assoc, Nat.add_assoc]
theorem byteAt_toNat (n : Int) (i : Nat) : ((byteAt n i).toNat : Int) = (n / (256 ^ i : Nat)) % 256 := by
  unfold byteAt
  have h1 := Int.emod_nonneg (n / (256 ^ i : Nat)) (show (256 : Int) ≠ 0 by omega)
  have h2 := Int.emod_lt_of_pos (n / (256 ^ i : Nat)) (show (0 : Int) < 256 by omega)
  rw [UInt8.toNat_ofNat']
  have e : (n / (256 ^ i : Nat) % 256).toNat % 2 ^ 8 = (n / (256 ^ i : Nat) % 256).toNat := Nat.mod_eq_of_lt (by show _ < 256; omega)
  rw [e]
  omega
theorem unsig_be : ∀ (k : Nat) (n : Int), (unsig (be k n) : Int) = n % (256 ^ k : Nat)
  | 0, n => by simp [be, unsig, Int.emod_one]
  | k + 1, n => by
    rw [be, unsig, be_length, Int.natCast_add, Int.natCast_mul, byteAt_toNat, unsig_be k n, Nat.pow_succ]
    generalize hM : (256 ^ k : Nat) = M
    have hM0 : 0 < M := by rw [← hM]; exact Nat.pow_pos (by omega)
    have e1 := Int.emod_add_mul_ediv n (M : Int)
    have e2 := Int.emod_add_mul_ediv (n / (M : Int)) 256
    have r0 := Int.emod_nonneg n (show (M : Int) ≠ 0 by omega)
    have r1 := Int.emod_lt_of_pos n (show (0 : Int) < M by omega)
    have c0 := Int.emod_nonneg (n / (M : Int)) (show (256 : Int) ≠ 0 by omega)
    have c1 := Int.emod_lt_of_pos (n / (M : Int)) (show (0 : Int) < 256 by omega)
    generalize n / (M : Int) % 256 = c at *
    generalize n / (M : Int) / 256 = a at *
    generalize n / (M : Int) = q at *
    generalize n % (M : Int) = r at *
    have hc : c * (M : Int) ≤ 255 * M := Int.mul_le_mul_of_nonneg_right (by omega) (by omega)
    have hc0 : 0 ≤ c * (M : Int) := Int.mul_nonneg c0 (by omega)
    have e3 : n = (c * M + r) + ((M * 256 : Nat) : Int) * a := by
      rw [← e1, ← e2, Int.mul_add, Int.natCast_mul, Int.mul_assoc, Int.mul_comm c]
      show r + ((M : Int) * c + M * (256 * a)) = M * c + r + M * (256 * a)
      omega
    rw [e3, Int.add_mul_emod_self_left]
    exact (Int.emod_eq_of_lt (by omega) (by rw [Int.natCast_mul]; show _ < (M : Int) * 256; omega)).symm
theorem be_unsig : ∀ (l : Bs) (m : Int), be l.length (m * (256 ^ l.length : Nat) + unsig l) = l
  | [], _ => rfl
  | b :: l, m => by
    have hu := unsig_lt l
    have hb : b.toNat < 256 := UInt8.toNat_lt b
    have ih := be_unsig l (m * 256 + b.toNat)
    rw [List.length_cons, be, unsig, Nat.pow_succ]
    generalize hM : (256 ^ l.length : Nat) = M at *
    have hM0 : 0 < M := by rw [← hM]; exact Nat.pow_pos (by omega)
    have e : m * ((M * 256 : Nat) : Int) + ((b.toNat * M + unsig l : Nat) : Int) = (m * 256 + b.toNat) * M + unsig l := by
      rw [Int.natCast_add, Int.natCast_mul, Int.natCast_mul, Int.add_mul, Int.mul_assoc m 256, ← Int.mul_comm (M : Int) 256]
      show m * ((M : Int) * 256) + _ = _
      omega
    rw [e, ih]
    refine congrArg (· :: l) ?_
    apply UInt8.toNat_inj.1
    have := byteAt_toNat ((m * 256 + b.toNat) * (M : Int) + unsig l) l.length
    rw [hM, Int.add_comm, Int.add_mul_ediv_right _ _ (show (M : Int) ≠ 0 by omega), Int.ediv_eq_zero_of_lt (by omega) (by omega)] at this
    rw [← Int.add_comm (unsig l : Int)] 
    omega

/-- A number with its sign. -/
def sgn (k : Nat) (n : Int) : Int := if ((256 ^ k : Nat) : Int) / 2 ≤ n then n - (256 ^ k : Nat) else n
theorem be_sgn (l : Bs) : be l.length (sgn l.length (unsig l)) = l := by
  unfold sgn
  split
  · have := be_unsig l (-1)
    rw [show (-1 : Int) * (256 ^ l.length : Nat) + unsig l = (unsig l : Int) - (256 ^ l.length : Nat) by omega] at this
    exact this
  · have := be_unsig l 0
    rw [Int.zero_mul, Int.zero_add] at this
    exact this
theorem sgn_be2 (n : Int) (h : -32768 ≤ n ∧ n ≤ 32767) : sgn 2 (unsig (be 2 n)) = n := by
  rw [unsig_be]; unfold sgn
  show (if (32768 : Int) ≤ n % 65536 then n % 65536 - 65536 else n % 65536) = n
  split <;> omega
theorem sgn_be4 (n : Int) (h : -2147483648 ≤ n ∧ n ≤ 2147483647) : sgn 4 (unsig (be 4 n)) = n := by
  rw [unsig_be]; unfold sgn
  show (if (2147483648 : Int) ≤ n % 4294967296 then n % 4294967296 - 4294967296 else n % 4294967296) = n
  split <;> omega
theorem unsig_be1 (n : Int) (h : 0 ≤ n ∧ n ≤ 255) : (unsig (be 1 n) : Int) = n := by
  rw [unsig_be]
  show n % 256 = n
  omega
theorem sgn2_range (l : Bs) (h : l.length = 2) : -32768 ≤ sgn 2 (unsig l) ∧ sgn 2 (unsig l) ≤ 32767 := by
  have h2 : (unsig l : Int) < 65536 := by have := unsig_lt l; rw [h] at this; exact Int.ofNat_lt.2 this
  unfold sgn
  show -32768 ≤ (if (32768 : Int) ≤ unsig l then (unsig l : Int) - 65536 else unsig l) ∧ _
  split <;> constructor <;> (first | omega | (show (if (32768 : Int) ≤ unsig l then (unsig l : Int) - 65536 else unsig l) ≤ 32767; split <;> omega))
theorem sgn4_range (l : Bs) (h : l.length = 4) : -2147483648 ≤ sgn 4 (unsig l) ∧ sgn 4 (unsig l) ≤ 2147483647 := by
  have h2 : (unsig l : Int) < 4294967296 := by have := unsig_lt l; rw [h] at this; exact Int.ofNat_lt.2 this
  unfold sgn
  show -2147483648 ≤ (if (2147483648 : Int) ≤ unsig l then (unsig l : Int) - 4294967296 else unsig l) ∧ (if (2147483648 : Int) ≤ unsig l then (unsig l : Int) - 4294967296 else unsig l) ≤ 2147483647
  split <;> constructor <;> omega
end Go.Proofs.YtfdffiphlpeegaaDoor

namespace Go.Proofs.YtfdffiphlpeegaaDoor

def rTake (n : Nat) (s : RS) : Option (Bs × RS) := if n ≤ s.S.length then some (s.S.take n, { s with S := s.S.drop n }) else none
def rUnsigned (k : Nat) (s : RS) : Option (Int × RS) := (rTake k s).map fun p => ((unsig p.1 : Int), p.2)
def rSigned (k : Nat) (s : RS) : Option (Int × RS) := (rTake k s).map fun p => (sgn k (unsig p.1), p.2)
def rKeep (n : Int) (s : RS) : RS := { s with N := s.N ++ [n] }
def rShort (s : RS) : Option RS := (rSigned 2 s).map fun p => rKeep p.1 p.2
def rLong (s : RS) : Option RS := (rSigned 4 s).map fun p => rKeep p.1 p.2
def rByte (s : RS) : Option RS := (rUnsigned 1 s).map fun p => rKeep p.1 p.2
def rText (s : RS) : Option RS := if (0 : UInt8) ∈ s.S then some { s with S := s.S.drop ((s.S.takeWhile (· != 0)).length + 1), T := s.T ++ [s.S.takeWhile (· != 0)] } else none
def rRep : Nat → (RS → Option RS) → RS → Option RS
  | 0, _, s => some s
  | n + 1, f, s => (f s).bind (rRep n f)
/-- Things up to a byte 0: how many. -/
def rRow (f : RS → Option RS) : Nat → RS → Option (Nat × RS)
  | 0, _ => none
  | k + 1, s => match s.S with
    | [] => none
    | b :: r => if b = 0 then some (0, { s with S := r }) else (f s).bind fun s1 => (rRow f k s1).map fun p => (p.1 + 1, p.2)
def rPairs (s : RS) : Option RS := (rRow rText s.S.length s).bind fun p => if p.1 % 2 = 0 then some (rKeep p.1 p.2) else none
def rItem (s : RS) : Option RS := (rByte s).bind rText
def rFields (s : RS) : Option RS := (rRow rItem s.S.length (rKeep 0 s)).map fun p => { p.2 with N := p.2.N.set s.N.length p.1 }
def rCounted (f : RS → Option RS) (s : RS) : Option RS := (rSigned 2 s).bind fun p => if 0 ≤ p.1 ∧ p.1 ≤ 100 then rRep p.1.toNat f (rKeep p.1 p.2) else none
def rRaw (n : Int) (s : RS) : Option RS := (rTake n.toNat s).map fun p => { p.2 with T := p.2.T ++ [p.1] }
def rValue (s : RS) : Option RS := (rSigned 4 s).bind fun p => if -1 ≤ p.1 ∧ p.1 ≤ 10000 then (if p.1 < 0 then some (rKeep p.1 p.2) else rRaw p.1 (rKeep p.1 p.2)) else none
def rTail (s : RS) : Option RS := (rTake 18 s).bind fun p => if p.1 = List.replicate 18 0 then some p.2 else none
def rName (s : RS) : Option RS := (rText s).bind rTail
def rField (c : UInt8) (s : RS) : Option RS :=
  if c = 115 then rText s
  else if c = 98 then rByte s
  else if c = 105 then rLong s
  else if c = 112 then rPairs s
  else if c = 102 then rFields s
  else if c = 99 then rCounted rShort s
  else if c = 108 then rCounted rLong s
  else if c = 118 then rCounted rValue s
  else if c = 109 then rCounted rName s
  else some s
def rAll : Bs → RS → Option RS
  | [], s => some s
  | c :: l, s => (rField c s).bind (rAll l)

/-- The step of a writer, told by what it takes and what it puts. -/
def Fwd (w : WS → Option WS) (r : RS → Option RS) : Prop :=
  ∀ s s', w s = some s' → ∃ t n b, s.T = t ++ s'.T ∧ s.N = n ++ s'.N ∧ s'.B = s.B ++ b ∧ ∀ S T N, r ⟨b ++ S, T, N⟩ = some ⟨S, T ++ t, N ++ n⟩
def Bwd (w : WS → Option WS) (r : RS → Option RS) : Prop :=
  ∀ s s', r s = some s' → ∃ t n b, s.S = b ++ s'.S ∧ s'.T = s.T ++ t ∧ s'.N = s.N ++ n ∧ ∀ T N B, w ⟨t ++ T, n ++ N, B⟩ = some ⟨T, N, B ++ b⟩

theorem fwd_bind {w1 w2 : WS → Option WS} {r1 r2 : RS → Option RS} (h1 : Fwd w1 r1) (h2 : Fwd w2 r2) : Fwd (fun s => (w1 s).bind w2) (fun s => (r1 s).bind r2) := by
  intro s s' h
  replace h : (w1 s).bind w2 = some s' := h
  cases hx : w1 s with
  | none => rw [hx] at h; cases h
  | some s1 =>
    rw [hx] at h
    obtain ⟨t, n, b, e1, e2, e3, e4⟩ := h1 s s1 hx
    obtain ⟨t', n', b', g1, g2, g3, g4⟩ := h2 s1 s' h
    refine ⟨t ++ t', n ++ n', b ++ b', by rw [e1, g1, List.append_assoc], by rw [e2, g2, List.append_assoc], by rw [g3, e3, List.append_assoc], fun S T N => ?_⟩
    show (r1 ⟨b ++ b' ++ S, T, N⟩).bind r2 = _
    rw [List.append_assoc, e4]
    show r2 _ = _
    rw [g4, List.append_assoc, List.append_assoc]
theorem bwd_bind {w1 w2 : WS → Option WS} {r1 r2 : RS → Option RS} (h1 : Bwd w1 r1) (h2 : Bwd w2 r2) : Bwd (fun s => (w1 s).bind w2) (fun s => (r1 s).bind r2) := by
  intro s s' h
  replace h : (r1 s).bind r2 = some s' := h
  cases hx : r1 s with
  | none => rw [hx] at h; cases h
  | some s1 =>
    rw [hx] at h
    obtain ⟨t, n, b, e1, e2, e3, e4⟩ := h1 s s1 hx
    obtain ⟨t', n', b', g1, g2, g3, g4⟩ := h2 s1 s' h
    refine ⟨t ++ t', n ++ n', b ++ b', by rw [e1, g1, List.append_assoc], by rw [g2, e2, List.append_assoc], by rw [g3, e3, List.append_assoc], fun T N B => ?_⟩
    show (w1 ⟨t ++ t' ++ T, n ++ n' ++ N, B⟩).bind w2 = _
    rw [List.append_assoc, List.append_assoc, e4]
    show w2 _ = _
    rw [g4, List.append_assoc]
theorem fwd_some : Fwd some some := by
  rintro s s' h
  obtain rfl := Option.some.inj h
  exact ⟨[], [], [], rfl, rfl, (List.append_nil _).symm, fun S T N => by simp⟩
theorem bwd_some : Bwd some some := by
  rintro s s' h
  obtain rfl := Option.some.inj h
  exact ⟨[], [], [], rfl, (List.append_nil _).symm, (List.append_nil _).symm, fun S T N => by simp⟩
theorem fwd_rep {w : WS → Option WS} {r : RS → Option RS} (h : Fwd w r) : ∀ n, Fwd (rep n w) (rRep n r)
  | 0 => fwd_some
  | n + 1 => fwd_bind h (fwd_rep h n)
theorem bwd_rep {w : WS → Option WS} {r : RS → Option RS} (h : Bwd w r) : ∀ n, Bwd (rep n w) (rRep n r)
  | 0 => bwd_some
  | n + 1 => bwd_bind h (bwd_rep h n)

theorem take_pre (b S : Bs) (T : List Bs) (N : List Int) : rTake b.length ⟨b ++ S, T, N⟩ = some (b, ⟨S, T, N⟩) := by
  unfold rTake
  rw [if_pos (by show _ ≤ (b ++ S).length; rw [List.length_append]; omega)]
  simp
theorem take_out {k : Nat} {s s' : RS} {b : Bs} (h : rTake k s = some (b, s')) : s.S = b ++ s'.S ∧ b.length = k ∧ s'.T = s.T ∧ s'.N = s.N := by
  unfold rTake at h
  split at h
  · rename_i hk
    simp only [Option.some.injEq, Prod.mk.injEq] at h
    obtain ⟨rfl, rfl⟩ := h
    exact ⟨(List.take_append_drop _ _).symm, List.length_take_of_le hk, rfl, rfl⟩
  · cases h
theorem signed_pre (k : Nat) (n : Int) (S : Bs) (T : List Bs) (N : List Int) : rSigned k ⟨be k n ++ S, T, N⟩ = some (sgn k (unsig (be k n)), ⟨S, T, N⟩) := by
  unfold rSigned
  have := take_pre (be k n) S T N
  rw [be_length] at this
  rw [this]; rfl
theorem unsigned_pre (k : Nat) (n : Int) (S : Bs) (T : List Bs) (N : List Int) : rUnsigned k ⟨be k n ++ S, T, N⟩ = some ((unsig (be k n) : Int), ⟨S, T, N⟩) := by
  unfold rUnsigned
  have := take_pre (be k n) S T N
  rw [be_length] at this
  rw [this]; rfl
theorem signed_out {k : Nat} {n : Int} {s s' : RS} (h : rSigned k s = some (n, s')) : ∃ b, s.S = b ++ s'.S ∧ b.length = k ∧ n = sgn k (unsig b) ∧ be k n = b ∧ s'.T = s.T ∧ s'.N = s.N := by
  unfold rSigned at h
  cases hx : rTake k s with
  | none => rw [hx] at h; cases h
  | some p =>
    obtain ⟨b, s1⟩ := p
    rw [hx] at h
    simp only [Option.map_some, Option.some.injEq, Prod.mk.injEq] at h
    obtain ⟨rfl, rfl⟩ := h
    obtain ⟨e1, e2, e3, e4⟩ := take_out hx
    refine ⟨b, e1, e2, rfl, ?_, e3, e4⟩
    rw [← e2]; exact be_sgn b
theorem number_out {l m n : Int} {k : Nat} {s s' : WS} (h : wNumber l m k s = some (n, s')) : s.N = n :: s'.N ∧ s'.T = s.T ∧ s'.B = s.B ++ be k n ∧ l ≤ n ∧ n ≤ m := by
  have hr := number_range h
  unfold wNumber wNum at h
  cases hN : s.N with
  | nil => rw [hN] at h; cases h
  | cons x ns =>
    rw [hN] at h
    simp only at h
    split at h
    · simp only [Option.map_some, Option.some.injEq, Prod.mk.injEq] at h
      obtain ⟨rfl, rfl⟩ := h
      exact ⟨rfl, rfl, rfl, hr⟩
    · cases h
theorem number_in {l m n : Int} (k : Nat) (h : l ≤ n ∧ n ≤ m) (T : List Bs) (N : List Int) (B : Bs) : wNumber l m k ⟨T, n :: N, B⟩ = some (n, ⟨T, N, B ++ be k n⟩) := by
  unfold wNumber wNum
  simp only
  rw [if_pos h]; rfl
theorem fwd_num {l m : Int} {k : Nat} (hk : ∀ n, l ≤ n → n ≤ m → sgn k (unsig (be k n)) = n) : Fwd (fun s => (wNumber l m k s).map (·.2)) (fun s => (rSigned k s).map fun p => rKeep p.1 p.2) := by
  intro s s' h
  cases hx : wNumber l m k s with
  | none => simp only [hx] at h; cases h
  | some p =>
    obtain ⟨n, s1⟩ := p
    simp only [hx] at h
    obtain rfl := Option.some.inj h
    obtain ⟨e1, e2, e3, e4, e5⟩ := number_out hx
    refine ⟨[], [n], be k n, by rw [e2]; rfl, by rw [e1]; rfl, e3, fun S T N => ?_⟩
    simp only [signed_pre, hk n e4 e5]
    simp [rKeep]
theorem bwd_num {l m : Int} {k : Nat} (hk : ∀ b : Bs, b.length = k → l ≤ sgn k (unsig b) ∧ sgn k (unsig b) ≤ m) : Bwd (fun s => (wNumber l m k s).map (·.2)) (fun s => (rSigned k s).map fun p => rKeep p.1 p.2) := by
  intro s s' h
  cases hx : rSigned k s with
  | none => simp only [hx] at h; cases h
  | some p =>
    obtain ⟨n, s1⟩ := p
    simp only [hx] at h
    obtain rfl := Option.some.inj h
    obtain ⟨b, e1, e2, e3, e4, e5, e6⟩ := signed_out hx
    refine ⟨[], [n], b, e1, by show s1.T = _; rw [e5, List.append_nil], by show s1.N ++ [n] = _; rw [e6], fun T N B => ?_⟩
    have hr := hk b e2
    rw [← e3] at hr
    show (wNumber l m k ⟨T, n :: N, B⟩).map _ = _
    rw [number_in k hr, e4]; rfl
theorem fwd_short : Fwd wShort rShort := fwd_num fun n h1 h2 => sgn_be2 n ⟨h1, h2⟩
theorem bwd_short : Bwd wShort rShort := bwd_num fun b h => sgn2_range b h
theorem fwd_long : Fwd wLong rLong := fwd_num fun n h1 h2 => sgn_be4 n ⟨h1, h2⟩
theorem bwd_long : Bwd wLong rLong := bwd_num fun b h => sgn4_range b h

theorem byte_pre (n : Int) (h : 0 ≤ n ∧ n ≤ 255) (S : Bs) (T : List Bs) (N : List Int) : rByte ⟨be 1 n ++ S, T, N⟩ = some ⟨S, T, N ++ [n]⟩ := by
  unfold rByte
  rw [unsigned_pre, unsig_be1 n h]; rfl
theorem byte_out {s s' : RS} (h : rByte s = some s') : ∃ c : UInt8, s.S = c :: s'.S ∧ s'.T = s.T ∧ s'.N = s.N ++ [(c.toNat : Int)] ∧ be 1 (c.toNat : Int) = [c] := by
  unfold rByte rUnsigned at h
  cases hx : rTake 1 s with
  | none => rw [hx] at h; cases h
  | some p =>
    obtain ⟨b, s1⟩ := p
    rw [hx] at h
    simp only [Option.map_some, Option.some.injEq] at h
    obtain rfl := h
    obtain ⟨e1, e2, e3, e4⟩ := take_out hx
    match b, e2 with
    | [c], _ =>
      have hu : unsig [c] = c.toNat := by simp [unsig]
      refine ⟨c, e1, e3, by rw [hu]; show s1.N ++ _ = _; rw [e4], ?_⟩
      have := be_unsig [c] 0
      rw [Int.zero_mul, Int.zero_add, hu] at this
      exact this
theorem fwd_byte : Fwd wByte rByte := by
  intro s s' h
  unfold wByte at h
  cases hx : wNumber 0 255 1 s with
  | none => rw [hx] at h; cases h
  | some p =>
    obtain ⟨n, s1⟩ := p
    rw [hx] at h
    obtain rfl := Option.some.inj h
    obtain ⟨e1, e2, e3, e4, e5⟩ := number_out hx
    exact ⟨[], [n], be 1 n, by rw [e2]; rfl, by rw [e1]; rfl, e3, fun S T N => by rw [byte_pre n ⟨e4, e5⟩, List.append_nil]⟩
theorem bwd_byte : Bwd wByte rByte := by
  intro s s' h
  obtain ⟨c, e1, e2, e3, e4⟩ := byte_out h
  have hc : c.toNat < 256 := UInt8.toNat_lt c
  refine ⟨[], [(c.toNat : Int)], [c], e1, by rw [e2, List.append_nil], e3, fun T N B => ?_⟩
  show (wNumber 0 255 1 ⟨T, (c.toNat : Int) :: N, B⟩).map _ = _
  rw [number_in 1 ⟨by omega, by omega⟩, e4]; rfl

theorem while_pre {t : Bs} (h : (0 : UInt8) ∉ t) (S : Bs) : (t ++ 0 :: S).takeWhile (· != 0) = t := by
  induction t with
  | nil => rfl
  | cons a t ih =>
    have ha : (a != 0) = true := bne_iff_ne.2 fun e => h (e ▸ List.mem_cons_self ..)
    rw [List.cons_append, List.takeWhile_cons, ha]
    exact congrArg (a :: ·) (ih fun h' => h (List.mem_cons_of_mem _ h'))
theorem while_out {l : Bs} (h : (0 : UInt8) ∈ l) : l = l.takeWhile (· != 0) ++ 0 :: l.drop ((l.takeWhile (· != 0)).length + 1) ∧ (0 : UInt8) ∉ l.takeWhile (· != 0) := by
  induction l with
  | nil => cases h
  | cons a l ih =>
    by_cases ha : a = 0
    · subst ha
      exact ⟨rfl, fun h => by cases h⟩
    · have hb : (a != 0) = true := bne_iff_ne.2 ha
      have hm : (0 : UInt8) ∈ l := (List.mem_cons.1 h).resolve_left fun e => ha e.symm
      obtain ⟨e1, e2⟩ := ih hm
      rw [List.takeWhile_cons, hb]
      refine ⟨?_, ?_⟩
      · show a :: l = a :: (l.takeWhile (· != 0) ++ 0 :: l.drop ((l.takeWhile (· != 0)).length + 1))
        rw [← e1]
      · intro h'
        rcases List.mem_cons.1 h' with h' | h'
        · exact ha h'.symm
        · exact e2 h'
theorem text_pre {t : Bs} (h : (0 : UInt8) ∉ t) (S : Bs) (T : List Bs) (N : List Int) : rText ⟨t ++ [0] ++ S, T, N⟩ = some ⟨S, T ++ [t], N⟩ := by
  unfold rText
  have e : t ++ [0] ++ S = t ++ 0 :: S := by simp
  simp only [e, while_pre h]
  rw [if_pos (by simp)]
  have : (t ++ 0 :: S).drop (t.length + 1) = S := by
    rw [← e, show t.length + 1 = (t ++ [0]).length by simp, List.drop_left]
  rw [this]
theorem text_out {s s' : RS} (h : rText s = some s') : ∃ t, s.S = t ++ [0] ++ s'.S ∧ (0 : UInt8) ∉ t ∧ s'.T = s.T ++ [t] ∧ s'.N = s.N := by
  unfold rText at h
  split at h
  · rename_i h0
    obtain rfl := Option.some.inj h
    obtain ⟨e1, e2⟩ := while_out h0
    exact ⟨_, by rw [List.append_assoc]; exact e1, e2, rfl, rfl⟩
  · cases h
theorem wtext_out {s s' : WS} (h : wText s = some s') : ∃ t, s.T = t :: s'.T ∧ (0 : UInt8) ∉ t ∧ s'.N = s.N ∧ s'.B = s.B ++ (t ++ [0]) := by
  unfold wText at h
  cases hT : s.T with
  | nil => rw [hT] at h; cases h
  | cons t ts =>
    rw [hT] at h
    simp only at h
    split at h
    · cases h
    · rename_i h0
      obtain rfl := Option.some.inj h
      exact ⟨t, rfl, h0, rfl, rfl⟩
theorem wtext_in {t : Bs} (h : (0 : UInt8) ∉ t) (T : List Bs) (N : List Int) (B : Bs) : wText ⟨t :: T, N, B⟩ = some ⟨T, N, B ++ (t ++ [0])⟩ := by
  unfold wText
  simp only
  rw [if_neg h]
theorem fwd_text : Fwd wText rText := by
  intro s s' h
  obtain ⟨t, e1, e2, e3, e4⟩ := wtext_out h
  exact ⟨[t], [], t ++ [0], e1, by rw [e3]; rfl, e4, fun S T N => by rw [text_pre e2, List.append_nil]⟩
theorem bwd_text : Bwd wText rText := by
  intro s s' h
  obtain ⟨t, e1, e2, e3, e4⟩ := text_out h
  exact ⟨[t], [], t ++ [0], e1, e3, by rw [e4, List.append_nil], fun T N B => wtext_in e2 T N B⟩
end Go.Proofs.YtfdffiphlpeegaaDoor
