/- Contracts and mathematics: Frame, Bytes, MM, Base. -/
import Derived.Test.YtmofnkinclckoaaGreatDoorRows
import Derived.WalkKit
import Derived.ProofKit
import Derived.OpenShut
import Derived.Carry
import Derived.JoinedOf
import Derived.Lib.SmallJoins
import Derived.Lib.Hide
import Derived.LoopTactic
import Derived.BigQuiet
import Derived.Deep.QuietTactic
import Derived.ChangeAlike
import Derived.RegionTactic
import Derived.WalkLawsBesides
import Derived.WalkSpells
import Derived.Laws.Cover1
import Derived.Laws.OwnMore
import Derived.Deep.DeepAppendWide
import Derived.Deep.RegionLaw
import Derived.Laws.IdiomCopy
import Derived.Lib.SliceRun
namespace Go.Proofs.YtmofnkinclckoaaGreatDoor
open Go.ChangeShapes Go.WideShapes Go.ChangeAt Go.RowKit

theorem own : ownKnob Tryz.prog.godebug = none := by kernel_rfl
theorem laidOut : laidOutB Tryz.prog = true := by kernel_rfl

theorem byte_range {a : Int} (h : (Lit.int .u8 a).wf = true) : 0 ≤ a ∧ a < 256 := by
  have : 0 ≤ a ∧ a ≤ 255 := by simpa [Lit.wf, IntKind.min, IntKind.max, IntKind.signed, IntKind.bits] using h
  omega

theorem int_range {a : Int} (h : (Lit.int .i64 a).wf = true) : -9223372036854775808 ≤ a ∧ a ≤ 9223372036854775807 := by
  simpa [Lit.wf, IntKind.min, IntKind.max, IntKind.signed, IntKind.bits] using h

/-- One closed fact: each parameter's type can be read and is a row of the table. -/
def rowed (P : Program) (ts : List TypeId) : Bool := ts.all fun t => P.readableRec t && decide (t < P.types.size)

theorem trodAll_below {H : Type} {enc : TypeId × Value → H} {P : Program} (hl : laidOutB P = true) {W W' : World} (hb : Below W.heap.size W W') :
    ∀ {ts : List TypeId} {vs : List Value} {ds : List (DataW H)} {ps : List MemPlace}, rowed P ts = true → DataW.TrodAll enc P W 0 (fun _ => true) true ts vs ds ps → (∀ x ∈ ps, x.block < W.heap.size) →
      DataW.TrodAll enc P W' 0 (fun b => decide (b < W.heap.size)) true ts vs ds ps
  | [], [], [], _, _, h, _ => h
  | [], _ :: _, _, _, _, h, _ => h.elim
  | [], [], _ :: _, _, _, h, _ => h.elim
  | _ :: _, [], _, _, _, h, _ => h.elim
  | _ :: _, _ :: _, [], _, _, h, _ => h.elim
  | t :: ts, v :: vs, d :: ds, ps, hr, h, hlt => by
    obtain ⟨p, q, h1, h2, rfl⟩ := h
    simp only [rowed, List.all_cons, Bool.and_eq_true, decide_eq_true_eq] at hr
    refine ⟨p, q, Below.trod hl hr.1.1 hr.1.2 h1 hb (fun x hx => hlt x (by simp [hx])), trodAll_below hl hb ?_ h2 (fun x hx => hlt x (by simp [hx])), rfl⟩
    simpa [rowed] using hr.2

theorem trodAll_five {H : Type} {enc : TypeId × Value → H} {P : Program} {w : World} {base : Nat} {spare : Nat → Bool} {held : Bool} {t0 t1 t2 t3 t4 : TypeId} {args : Array Value} {ds : List (DataW H)} {ps : List MemPlace} (h : DataW.TrodAll enc P w base spare held [t0, t1, t2, t3, t4] args.toList ds ps) :
    ∃ v0 v1 v2 v3 v4 d0 d1 d2 d3 d4 p0 p1 p2 p3 p4, args = #[v0, v1, v2, v3, v4] ∧ ds = [d0, d1, d2, d3, d4] ∧ ps = p0 ++ p1 ++ p2 ++ p3 ++ p4 ∧ DataW.Trod enc P w base spare held t0 v0 d0 p0 ∧ DataW.Trod enc P w base spare held t1 v1 d1 p1 ∧ DataW.Trod enc P w base spare held t2 v2 d2 p2 ∧ DataW.Trod enc P w base spare held t3 v3 d3 p3 ∧ DataW.Trod enc P w base spare held t4 v4 d4 p4 := by
  obtain ⟨v0, vs0, d0, ds0, p0, q0, hargs, rfl, rfl, h0, r0⟩ := trodAll_cons h
  obtain ⟨v1, vs1, d1, ds1, p1, q1, rfl, rfl, rfl, h1, r1⟩ := trodAll_cons r0
  obtain ⟨v2, vs2, d2, ds2, p2, q2, rfl, rfl, rfl, h2, r2⟩ := trodAll_cons r1
  obtain ⟨v3, vs3, d3, ds3, p3, q3, rfl, rfl, rfl, h3, r3⟩ := trodAll_cons r2
  obtain ⟨v4, vs4, d4, ds4, p4, q4, rfl, rfl, rfl, h4, r4⟩ := trodAll_cons r3
  obtain ⟨rfl, rfl, rfl⟩ := trodAll_nil r4
  exact ⟨v0, v1, v2, v3, v4, d0, d1, d2, d3, d4, p0, p1, p2, p3, p4, by cases args; simp_all, rfl, by simp, h0, h1, h2, h3, h4⟩

/-- The law's end. -/
theorem law_shut {H : Type} {enc : TypeId × Value → H} {P : Program} {f : Func} {s : ChangeSpec} {W W' : World} {args : Array Value} {ds gs : List (DataW H)} {before : List MemPlace} {tb : TypeId}
    (hl : laidOutB P = true) (hr : rowed P f.params.toList = true) (hres : f.resultTypes = #[tb]) (hbool : P.underlying tb = some .bool) (hv : s.vars = [])
    (hW : DataW.Whole enc P f.params.toList s.vars false W args.toList ds gs before) (hfn : s.fn H (ds ++ gs) = { results := [.lit (.bool true)], args := ds }) (hb : Below W.heap.size W W') :
    s.post enc P f false true false false W args (.bool true) W' := by
  have hW' := hW
  obtain ⟨p, q, hA, hV, rfl, _, _⟩ := hW
  rw [hv] at hV
  obtain ⟨rfl, rfl⟩ := trodVars_none hV
  have hlt : ∀ x ∈ p, x.block < W.heap.size := fun x hx => hW'.lt x (by simp [hx])
  refine ⟨ds, [], p ++ [], [], p, [], hW', ?_, ?_, ?_, hb.frame _, fun h => by cases h⟩
  · rw [hfn, hres]
    exact trodAll_mk1 (shut_bool hbool _)
  · rw [hfn]
    exact trodAll_below hl hb hr hA hlt
  · rw [hfn, hv]
    rfl
end Go.Proofs.YtmofnkinclckoaaGreatDoor

namespace Go.Proofs.YtmofnkinclckoaaGreatDoor

abbrev Bs := List UInt8
abbrev bytes (s : ByteArray) : Bs := s.data.toList
theorem bytes_len (s : ByteArray) : (bytes s).length = s.size := by simp [bytes]
theorem blen (s : ByteArray) : (bytes s).length = s.size := bytes_len s
theorem bsize (a : Bs) : (⟨a.toArray⟩ : ByteArray).size = a.length := by simp [ByteArray.size]
end Go.Proofs.YtmofnkinclckoaaGreatDoor

namespace Go.Proofs.YtmofnkinclckoaaGreatDoor


/-- What is left of a message's texts and numbers, and the body so far. -/
structure WS where
  T : List Bs
  N : List Int
  B : Bs

/-- The byte of a number at a place. -/
def byteAt (n : Int) (i : Nat) : UInt8 := UInt8.ofNat ((n / (256 ^ i : Nat)) % 256).toNat
/-- A number in so many bytes, the greatest first. -/
def be : Nat → Int → Bs
  | 0, _ => []
  | k + 1, n => byteAt n k :: be k n
theorem be_length : ∀ (k : Nat) (n : Int), (be k n).length = k
  | 0, _ => rfl
  | k + 1, n => by rw [be, List.length_cons, be_length k n]

def wNum (l m : Int) (s : WS) : Option (Int × WS) := match s.N with
  | [] => none
  | n :: ns => if l ≤ n ∧ n ≤ m then some (n, { s with N := ns }) else none
def wNumber (l m : Int) (k : Nat) (s : WS) : Option (Int × WS) := (wNum l m s).map fun p => (p.1, { p.2 with B := p.2.B ++ be k p.1 })
def wZero (s : WS) : WS := { s with B := s.B ++ [0] }
def wText (s : WS) : Option WS := match s.T with
  | [] => none
  | t :: ts => if (0 : UInt8) ∈ t then none else some { s with T := ts, B := s.B ++ (t ++ [0]) }
def rep : Nat → (WS → Option WS) → WS → Option WS
  | 0, _, s => some s
  | n + 1, f, s => (f s).bind (rep n f)
def wPair (s : WS) : Option WS := match s.T with
  | [] => none
  | t :: _ => if t = [] then none else wText s
def wPairs (s : WS) : Option WS := (wNum 0 s.T.length s).bind fun p => if p.1 % 2 = 0 then (rep p.1.toNat wPair p.2).map wZero else none
def wItem (s : WS) : Option WS := (wNumber 1 255 1 s).bind fun p => wText p.2
def wFields (s : WS) : Option WS := (wNum 0 s.T.length s).bind fun p => (rep p.1.toNat wItem p.2).map wZero
def wCounted (f : WS → Option WS) (s : WS) : Option WS := (wNumber 0 100 2 s).bind fun p => rep p.1.toNat f p.2
def wShort (s : WS) : Option WS := (wNumber (-32768) 32767 2 s).map (·.2)
def wLong (s : WS) : Option WS := (wNumber (-2147483648) 2147483647 4 s).map (·.2)
def wByte (s : WS) : Option WS := (wNumber 0 255 1 s).map (·.2)
def wRaw (n : Int) (s : WS) : Option WS := match s.T with
  | [] => none
  | t :: ts => if (t.length : Int) = n then some { s with T := ts, B := s.B ++ t } else none
def wValue (s : WS) : Option WS := (wNumber (-1) 10000 4 s).bind fun p => if p.1 < 0 then some p.2 else wRaw p.1 p.2
def wName (s : WS) : Option WS := (wText s).map fun s => { s with B := s.B ++ List.replicate 18 0 }
/-- One field. -/
def wField (c : UInt8) (s : WS) : Option WS :=
  if c = 115 then wText s
  else if c = 98 then wByte s
  else if c = 105 then wLong s
  else if c = 112 then wPairs s
  else if c = 102 then wFields s
  else if c = 99 then wCounted wShort s
  else if c = 108 then wCounted wLong s
  else if c = 118 then wCounted wValue s
  else if c = 109 then wCounted wName s
  else some s
def wAll : Bs → WS → Option WS
  | [], s => some s
  | c :: l, s => (wField c s).bind (wAll l)

/-- How much there can be yet. -/
def room (s : WS) : Nat := s.B.length + ((s.T.map fun t => t.length + 19).sum + 4 * s.N.length)

theorem room_num {l m n : Int} {s s' : WS} (h : wNum l m s = some (n, s')) : s'.B = s.B ∧ s'.T = s.T ∧ room s' + 4 = room s := by
  unfold wNum at h
  cases hN : s.N with
  | nil => rw [hN] at h; cases h
  | cons x ns =>
    rw [hN] at h
    simp only at h
    split at h
    · simp only [Option.some.injEq, Prod.mk.injEq] at h
      obtain ⟨rfl, rfl⟩ := h
      refine ⟨rfl, rfl, ?_⟩
      unfold room
      rw [hN, List.length_cons]
      show s.B.length + ((s.T.map fun t => t.length + 19).sum + 4 * ns.length) + 4 = _
      omega
    · cases h
theorem room_number {l m n : Int} {k : Nat} {s s' : WS} (h : wNumber l m k s = some (n, s')) (hk : k ≤ 4) : room s' ≤ room s ∧ s'.T = s.T := by
  unfold wNumber at h
  cases hN : wNum l m s with
  | none => rw [hN] at h; cases h
  | some p =>
    obtain ⟨x, s1⟩ := p
    rw [hN] at h
    simp only [Option.map_some, Option.some.injEq, Prod.mk.injEq] at h
    obtain ⟨rfl, rfl⟩ := h
    obtain ⟨h1, h2, h3⟩ := room_num hN
    refine ⟨?_, h2⟩
    unfold room at h3 ⊢
    show (s1.B ++ be k x).length + _ ≤ _
    rw [List.length_append, be_length]
    show s1.B.length + k + ((s1.T.map fun t => t.length + 19).sum + 4 * s1.N.length) ≤ _
    omega
theorem num_range {l m n : Int} {s s' : WS} (h : wNum l m s = some (n, s')) : l ≤ n ∧ n ≤ m := by
  unfold wNum at h
  cases hN : s.N with
  | nil => rw [hN] at h; cases h
  | cons x ns =>
    rw [hN] at h
    simp only at h
    split at h
    · rename_i hc
      have e := (Prod.mk.inj (Option.some.inj h)).1
      subst e; exact hc
    · cases h
theorem number_range {l m n : Int} {k : Nat} {s s' : WS} (h : wNumber l m k s = some (n, s')) : l ≤ n ∧ n ≤ m := by
  unfold wNumber at h
  cases hN : wNum l m s with
  | none => rw [hN] at h; cases h
  | some p =>
    obtain ⟨x, s1⟩ := p
    rw [hN] at h
    simp only [Option.map_some, Option.some.injEq, Prod.mk.injEq] at h
    obtain ⟨rfl, _⟩ := h
    exact num_range hN
theorem room_text {s s' : WS} (h : wText s = some s') : room s' + 18 ≤ room s := by
  unfold wText at h
  cases hT : s.T with
  | nil => rw [hT] at h; cases h
  | cons t ts =>
    rw [hT] at h
    simp only at h
    split at h
    · cases h
    · obtain rfl := Option.some.inj h
      unfold room
      rw [hT, List.map_cons, List.sum_cons]
      show (s.B ++ (t ++ [0])).length + ((ts.map fun t => t.length + 19).sum + 4 * s.N.length) + 18 ≤ _
      rw [List.length_append, List.length_append]
      show s.B.length + (t.length + 1) + _ + 18 ≤ _
      omega
theorem room_zero (s : WS) : room (wZero s) = room s + 1 := by
  unfold room wZero
  show (s.B ++ [0]).length + _ = _
  rw [List.length_append]
  show s.B.length + 1 + ((s.T.map fun t => t.length + 19).sum + 4 * s.N.length) = _
  omega
theorem room_rep {f : WS → Option WS} (hf : ∀ s s', f s = some s' → room s' ≤ room s) : ∀ (n : Nat) (s s' : WS), rep n f s = some s' → room s' ≤ room s := by
  intro n
  induction n with
  | zero => intro s s' h; obtain rfl := Option.some.inj h; exact Nat.le_refl _
  | succ n ih =>
    intro s s' h
    rw [rep] at h
    cases hx : f s with
    | none => rw [hx] at h; cases h
    | some s1 =>
      rw [hx] at h
      exact Nat.le_trans (ih s1 s' h) (hf s s1 hx)
theorem rep_succ (n : Nat) (f : WS → Option WS) (s : WS) : rep (n + 1) f s = (rep n f s).bind f := by
  induction n generalizing s with
  | zero =>
    show (f s).bind (rep 0 f) = f s
    cases f s <;> rfl
  | succ n ih =>
    rw [rep, rep]
    cases f s with
    | none => rfl
    | some s1 => exact ih s1
end Go.Proofs.YtmofnkinclckoaaGreatDoor

namespace Go.Proofs.YtmofnkinclckoaaGreatDoor
open Go.RowKit Go.Lib Go.WideShapes

theorem below_drewN {B : Nat} {a w : World} (h : Below B a w) (q : Nat) : Below B a (w.drewN q) := ⟨h.os, h.tape, h.output, h.size, h.block⟩

theorem _root_.Go.RowKit.Below.step {B : Nat} {a w w' : World} (h : Below B a w) (h' : Below w.heap.size w w') (hB : B ≤ w.heap.size) : Below B a w' := h.trans (h'.mono hB)

theorem ownsRow_form {w : World} {base size n : Nat} {e : TypeId} {v : Value} {xs : List Value} (h : w.ownsRow base e size v n xs) : ∃ a c, v = .slice a n c := by
  rcases h.2 with ⟨rfl, rfl⟩ | ⟨g, cap, _, rfl, _⟩
  · exact ⟨none, 0, rfl⟩
  · exact ⟨_, cap, rfl⟩

theorem own_grown {w w' : World} {base size n B : Nat} {e : TypeId} {v : Value} {xs : List Value} (h : w.ownsRow base e size v n xs) (hb : Below B w w') (hB : w.heap.size ≤ B) : w'.ownsRow base e size v n xs :=
  h.kept (row := none) ⟨hb.os, hb.tape, hb.output, hb.size, fun k hk _ => hb.block k (by omega)⟩ (by cases v.ownBlock <;> simp)

theorem step_append_own {P : Program} {w : World} {ops : Array Oper} {o : Oper} {a : Act} {K : Act → World → Prop} {Q : Exit → Act → World → Prop} {E : Prop} (hg : o.guard = none) (s x : Operand) (t : TypeId)
    (ho : o.op = .call { callee := .builtin .append, args := #[s, x], argTypes := #[t, t] })
    (base : Nat) (e : TypeId) (i : TypeInfo) (z : Value) (size bytes : Nat) (ht : P.underlying t = some (.slice e)) (hi : P.info? e = some i) (hz : i.zero = some z)
    (hsize : i.size = size) (hby : i.bytes = bytes) (hzs : z.cells.size = size) (hsz : 0 < size)
    (v : Value) (n : Nat) (xs : List Value) (hs : a.eval s = v) (hown : w.ownsRow base e size v n xs)
    (ad : Addr) (m c : Nat) (news : List Value) (hx : a.eval x = .slice (some ad) m c) (hl : news.length = m * size) (hnews : ∀ j u, news[j]? = some u → w.cell? (ad.add j) = some u) (h1 : ∀ u ∈ news, u.oneCell' = true)
    (h63 : n + m ≤ maxLen) (hbytes : ((n + m) + (n + m) / 4 + 192) * bytes ≤ 281474976710656) (hbase : base ≤ w.heap.size)
    (h : ∀ v' w', w'.ownsRow base e size v' (n + m) (xs ++ news) → w.grownBy w' v.ownBlock → K (a.put o.dst v') w') : if Region.wanted o (yielded ops a.tmps) = true then Oper.wp P o a w K Q else E := by
  have hw : Region.wanted o (yielded ops a.tmps) = true := by simp [Region.wanted, hg]
  rw [if_pos hw]
  exact wp_append_own_wide w s x t ho base e i z size bytes ht hi hz hsize hby hzs hsz v n xs hs hown ad m c news hx hl hnews h1 h63 hbytes hbase (fun v' w' h2 h3 _ => h v' w' h2 h3)

/-- What is below an own row stays when it grows. -/
theorem below_grown {w w1 w2 : World} {B : Nat} {row : Option Nat} (h : Below B w w1) (hB : B ≤ w1.heap.size) (hg : w1.grownBy w2 row) (hr : ∀ k, row = some k → B ≤ k) : Below B w w2 :=
  h.trans ⟨hg.os, hg.tape, hg.output, hg.size, fun k hk => hg.block k (by omega) (fun e => by have := hr k e.symm; omega)⟩

def setL (xs : List Value) : Nat → List Value → List Value
  | _, [] => xs
  | o, v :: r => setL (xs.set o v) (o + 1) r

theorem setL_length (vs : List Value) : ∀ (xs : List Value) (o : Nat), (setL xs o vs).length = xs.length := by
  induction vs with
  | nil => intros; rfl
  | cons v r ih => intro xs o; rw [setL, ih, List.length_set]

theorem setL_eq (vs : List Value) : ∀ (xs : List Value) (o : Nat), o + vs.length ≤ xs.length → setL xs o vs = xs.take o ++ (vs ++ xs.drop (o + vs.length)) := by
  induction vs with
  | nil => intro xs o _; simp [setL]
  | cons v r ih =>
    intro xs o h
    rw [List.length_cons] at h
    rw [setL, ih _ _ (by rw [List.length_set]; omega), List.length_cons, show o + (r.length + 1) = o + 1 + r.length by omega]
    rw [List.take_set, List.drop_set, if_pos (by omega)]
    rw [List.take_succ_eq_append_getElem (by omega), List.set_append_right _ _ (by rw [List.length_take]; omega)]
    simp [List.length_take, Nat.min_eq_left (show o ≤ xs.length by omega)]

theorem setL_out (vs : List Value) : ∀ (xs : List Value) (o : Nat), xs.length ≤ o → setL xs o vs = xs := by
  induction vs with
  | nil => intros; rfl
  | cons v r ih => intro xs o h; rw [setL, List.set_eq_of_length_le h, ih _ _ (by omega)]

section
variable {w : World} {base size n cap g : Nat} {e : TypeId} {xs : List Value}

theorem own_stored (h : w.ownsRow base e size (.slice (some ⟨g, 0, none⟩) n cap) n xs) (vs : List Value) : ∀ (o : Nat), (w.setCells g o vs).ownsRow base e size (.slice (some ⟨g, 0, none⟩) n cap) n (setL xs o vs) ∧ w.grownBy (w.setCells g o vs) (some g) := by
  induction vs generalizing w xs with
  | nil => intro o; exact ⟨h, ⟨rfl, rfl, rfl, Nat.le_refl _, fun _ _ _ => rfl⟩⟩
  | cons v r ih =>
    intro o
    obtain ⟨h1, h2⟩ := h.stored o v
    obtain ⟨h3, h4⟩ := ih h1 (o + 1)
    exact ⟨h3, ⟨h4.os.trans h2.os, h4.tape.trans h2.tape, h4.output.trans h2.output, Nat.le_trans h2.size h4.size, fun k hk hne => (h4.block k (Nat.lt_of_lt_of_le hk h2.size) hne).trans (h2.block k hk hne)⟩⟩

theorem own_cut (h : w.ownsRow base e size (.slice (some ⟨g, 0, none⟩) n cap) n xs) {m : Nat} (hm : m ≤ n) : w.ownsRow base e size (.slice (some ⟨g, 0, none⟩) m cap) m (xs.take (m * size)) := by
  have hms : m * size ≤ n * size := Nat.mul_le_mul_right _ hm
  refine ⟨by rw [List.length_take, h.1]; omega, ?_⟩
  rcases h.2 with ⟨hv, _⟩ | ⟨g', cap', cur, hv, hb, hg, hn, hc, hcs, ht⟩
  · cases hv
  · simp only [Value.slice.injEq, Option.some.injEq, Addr.mk.injEq, and_true, true_and] at hv
    obtain ⟨rfl, rfl⟩ := hv
    refine .inr ⟨_, _, cur, rfl, hb, hg, by omega, hc, hcs, ?_⟩
    rw [← ht, List.take_take, Nat.min_eq_left hms]

theorem own_room (h : w.ownsRow base e size (.slice (some ⟨g, 0, none⟩) n cap) n xs) : n ≤ cap ∧ cap ≤ maxLen ∧ base ≤ g ∧ g < w.heap.size ∧ w.shape? g = some (e, cap * size) ∧ (∀ j, w.frozen? ⟨g, j, none⟩ = false) ∧ ∀ j, j < cap * size → (w.cell? ⟨g, j, none⟩).isSome = true := by
  rcases h.2 with ⟨hv, _⟩ | ⟨g', cap', cur, hv, hb, hg, hn, hc, hcs, ht⟩
  · cases hv
  · simp only [Value.slice.injEq, Option.some.injEq, Addr.mk.injEq, and_true, true_and] at hv
    obtain ⟨rfl, rfl⟩ := hv
    refine ⟨hn, hc, hb, (Array.getElem?_eq_some_iff.1 hg).1, by simp [World.shape?, hg, hcs], fun j => by simp [World.frozen?, hg], fun j hj => ?_⟩
    simp [World.cell?, hg, Array.getElem?_eq_getElem (show j < cur.size by omega)]
end

theorem run_clear_cells {P : Program} (w : World) (t e ty : TypeId) (z : Value) (ht : P.underlying t = some (.slice e)) (hv : ∀ w, (zeroValue e).run P w = .ok z w) (b o n c : Nat) (hn : 0 < n) (zs : List Value) (hzc : (Builtin.zeroCells z.cells n).toList = zs) (h1 : ∀ v ∈ zs, v.oneCell' = true)
    (hc : ∀ j, j < zs.length → (w.cell? ⟨b, o + j, none⟩).isSome = true) (hf : ∀ j, j < zs.length → w.frozen? ⟨b, o + j, none⟩ = false) :
    (Builtin.clear_ #[t] ty #[.slice (some ⟨b, o, none⟩) n c]).run P w = .ok (.tuple #[]) (w.setCells b o zs) := by
  have hst := run_storeCells_cells (P := P) b o zs 0 w (by simpa using hc) (by simpa using hf) h1
  simp only [Nat.add_zero] at hst
  obtain ⟨m, rfl⟩ : ∃ m, n = m + 1 := ⟨n - 1, by omega⟩
  simp [Builtin.clear_, run_underlying ht, hv, hzc, hst]
section
variable {P : Program} (w : World)

/-- append to a row of the call's own: what it leaves lies where the row lay, or behind all. -/
theorem run_append_at (base : Nat) (t ty e : TypeId) (i : TypeInfo) (z : Value) (size bytes : Nat) (ht : P.underlying t = some (.slice e)) (hi : P.info? e = some i) (hz : i.zero = some z)
    (hsize : i.size = size) (hby : i.bytes = bytes) (hzs : z.cells.size = size) (hsz : 0 < size)
    (v : Value) (n : Nat) (xs : List Value) (hown : w.ownsRow base e size v n xs)
    (a : Addr) (m c : Nat) (news : List Value) (hl : news.length = m * size) (hnews : ∀ j u, news[j]? = some u → w.cell? (a.add j) = some u) (h1 : ∀ u ∈ news, u.oneCell' = true)
    (h63 : n + m ≤ maxLen) (hbytes : ((n + m) + (n + m) / 4 + 192) * bytes ≤ 281474976710656) (hbase : base ≤ w.heap.size) :
    ∃ v' w', (Builtin.append_ #[t, t] ty #[v, .slice (some a) m c]).run P w = .ok v' w' ∧ w'.ownsRow base e size v' (n + m) (xs ++ news) ∧ w.grownBy w' v.ownBlock ∧
      (∀ k, v'.ownBlock = some k → v.ownBlock = some k ∨ w.heap.size ≤ k) := by
  obtain ⟨v', w', hr, h2, h3, h4⟩ := run_append_own_wide (P := P) w base t ty e i z size bytes ht hi hz hsize hby hzs hsz v n xs hown a m c news hl hnews h1 h63 hbytes hbase
  have hsmall : n + m ≤ 9223372036854775807 := by simp only [maxLen] at h63; omega
  refine ⟨v', w', hr, h2, h3, fun k hk => ?_⟩
  subst hsize
  subst hby
  rcases hown.2 with ⟨rfl, rfl⟩ | ⟨g, cap, cur, rfl, hbg, hg, hnc, hcm, hcs, htake⟩
  · by_cases hm : m = 0
    · have := h4.2 ⟨rfl, hm⟩
      rw [this] at hk; cases hk
    · have hr2 := run_append_nil (P := P) w t ty e i z ht hi hz a m c news hl hnews (by omega) (by omega) (by have hb := hbytes; simp only [Nat.zero_add] at hb; exact Nat.le_trans (Nat.mul_le_mul_right _ (by omega)) hb)
      rw [hr2] at hr
      injection hr with e1 _
      rw [← e1] at hk; simp [Value.ownBlock] at hk; right; omega
  · by_cases hroom : n + m ≤ cap
    · have hfit : n * i.size + news.length ≤ cur.size := by rw [hl, hcs, ← Nat.add_mul]; exact Nat.mul_le_mul_right _ hroom
      have hr2 := run_append_room (P := P) w t ty e i ht hi g n cap cur hg a m c news hl hnews h1 hroom hfit
      rw [hr2] at hr
      injection hr with e1 _
      rw [← e1] at hk; left; exact hk
    · have holds : ∀ j u, xs[j]? = some u → w.cell? ((⟨g, 0, none⟩ : Addr).add j) = some u := hown.cells (g := g) rfl
      have hr2 := run_append_grow (P := P) w t ty e i z ht hi hz ⟨g, 0, none⟩ n cap xs hown.1 holds a m c news hl hnews (by omega) (by omega) (growslice_fits_wide (by omega) hbytes)
      rw [hr2] at hr
      injection hr with e1 _
      rw [← e1] at hk; simp [Value.ownBlock] at hk; right; omega

theorem wp_append_at {o : Oper} {a : Act} {K : Act → World → Prop} {Q : Exit → Act → World → Prop} (s x : Operand) (t : TypeId)
    (ho : o.op = .call { callee := .builtin .append, args := #[s, x], argTypes := #[t, t] })
    (base : Nat) (e : TypeId) (i : TypeInfo) (z : Value) (size bytes : Nat) (ht : P.underlying t = some (.slice e)) (hi : P.info? e = some i) (hz : i.zero = some z)
    (hsize : i.size = size) (hby : i.bytes = bytes) (hzs : z.cells.size = size) (hsz : 0 < size)
    (v : Value) (n : Nat) (xs : List Value) (hs : a.eval s = v) (hown : w.ownsRow base e size v n xs)
    (ad : Addr) (m c : Nat) (news : List Value) (hx : a.eval x = .slice (some ad) m c) (hl : news.length = m * size) (hnews : ∀ j u, news[j]? = some u → w.cell? (ad.add j) = some u) (h1 : ∀ u ∈ news, u.oneCell' = true)
    (h63 : n + m ≤ maxLen) (hbytes : ((n + m) + (n + m) / 4 + 192) * bytes ≤ 281474976710656) (hbase : base ≤ w.heap.size)
    (h : ∀ v' w', w'.ownsRow base e size v' (n + m) (xs ++ news) → w.grownBy w' v.ownBlock → (∀ k, v'.ownBlock = some k → v.ownBlock = some k ∨ w.heap.size ≤ k) → K (a.put o.dst v') w') : o.wp P a w K Q := by
  obtain ⟨v', w', hr, h2, h3, h4⟩ := run_append_at (P := P) w base t o.type e i z size bytes ht hi hz hsize hby hzs hsz v n xs hown ad m c news hl hnews h1 h63 hbytes hbase
  unfold Oper.wp execOp
  simp only [ho, resolve, invoke, builtin, Sem.run_bind, Sem.run_pure, Result.andThen_ok, List.map_toArray, List.map_cons, List.map_nil, hs, hx, hr]
  exact h v' w' h2 h3 h4

theorem wpList_append_at {ops : Array Oper} {rest : List Oper} {o : Oper} {a : Act} {Q : Exit → Act → World → Prop} (hgd : o.guard = none) (s x : Operand) (t : TypeId)
    (ho : o.op = .call { callee := .builtin .append, args := #[s, x], argTypes := #[t, t] })
    (base : Nat) (e : TypeId) (i : TypeInfo) (z : Value) (size bytes : Nat) (ht : P.underlying t = some (.slice e)) (hi : P.info? e = some i) (hz : i.zero = some z)
    (hsize : i.size = size) (hby : i.bytes = bytes) (hzs : z.cells.size = size) (hsz : 0 < size)
    (v : Value) (n : Nat) (xs : List Value) (hs : a.eval s = v) (hown : w.ownsRow base e size v n xs)
    (ad : Addr) (m c : Nat) (news : List Value) (hx : a.eval x = .slice (some ad) m c) (hl : news.length = m * size) (hnews : ∀ j u, news[j]? = some u → w.cell? (ad.add j) = some u) (h1 : ∀ u ∈ news, u.oneCell' = true)
    (h63 : n + m ≤ maxLen) (hbytes : ((n + m) + (n + m) / 4 + 192) * bytes ≤ 281474976710656) (hbase : base ≤ w.heap.size)
    (h : ∀ v' w', w'.ownsRow base e size v' (n + m) (xs ++ news) → w.grownBy w' v.ownBlock → (∀ k, v'.ownBlock = some k → v.ownBlock = some k ∨ w.heap.size ≤ k) → wpList P ops Q rest (a.put o.dst v') w') : wpList P ops Q (o :: rest) a w :=
  wpList_plain hgd fun _ hK => wp_append_at w s x t ho base e i z size bytes ht hi hz hsize hby hzs hsz v n xs hs hown ad m c news hx hl hnews h1 h63 hbytes hbase fun v' w' h2 h3 h4 => hK _ _ (h v' w' h2 h3 h4)
end
end Go.Proofs.YtmofnkinclckoaaGreatDoor
