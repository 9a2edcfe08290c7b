/- Contracts and mathematics: Frame, Bytes, MM, Base, MW, MNum, MText, MItems. -/
import Derived.Test.YtmofnkinclckoaaDoorRows
import Derived.WalkKit
import Derived.ProofKit
import Derived.OpenShut
import Derived.Carry
import Derived.JoinedOf
import Derived.Lib.SmallJoins
import Derived.Lib.Hide
import Derived.LoopTactic
import Derived.BigQuiet
import Derived.Deep.QuietTactic
import Derived.ChangeAlike
import Derived.RegionTactic
import Derived.WalkLawsBesides
import Derived.WalkSpells
import Derived.Laws.Cover1
import Derived.Laws.OwnMore
import Derived.Deep.DeepAppendWide
import Derived.Deep.RegionLaw
import Derived.Laws.IdiomCopy
import Derived.Lib.SliceRun
import Derived.Test.YtmofnkinclckoaaDoorShelf
import Derived.Lib.AppendStr
import Derived.Lib.BufferWrite
import Derived.Shelf.Strings.Prefix
import Derived.Deep.RegionHeld3
import Derived.Deep.LoopGhost
import Derived.Deep.RegionWith
import Derived.Deep.DeepCutAuto
namespace Go.Proofs.YtmofnkinclckoaaDoor
open Go.ChangeShapes Go.WideShapes Go.ChangeAt Go.RowKit

theorem own : ownKnob Tryd.prog.godebug = none := by kernel_rfl
theorem laidOut : laidOutB Tryd.prog = true := by kernel_rfl

theorem int_range {a : Int} (h : (Lit.int .i64 a).wf = true) : -9223372036854775808 ≤ a ∧ a ≤ 9223372036854775807 := by
  simpa [Lit.wf, IntKind.min, IntKind.max, IntKind.signed, IntKind.bits] using h

/-- One closed fact: each parameter's type can be read and is a row of the table. -/
def rowed (P : Program) (ts : List TypeId) : Bool := ts.all fun t => P.readableRec t && decide (t < P.types.size)

theorem trodAll_below {H : Type} {enc : TypeId × Value → H} {P : Program} (hl : laidOutB P = true) {W W' : World} (hb : Below W.heap.size W W') :
    ∀ {ts : List TypeId} {vs : List Value} {ds : List (DataW H)} {ps : List MemPlace}, rowed P ts = true → DataW.TrodAll enc P W 0 (fun _ => true) true ts vs ds ps → (∀ x ∈ ps, x.block < W.heap.size) →
      DataW.TrodAll enc P W' 0 (fun b => decide (b < W.heap.size)) true ts vs ds ps
  | [], [], [], _, _, h, _ => h
  | [], _ :: _, _, _, _, h, _ => h.elim
  | [], [], _ :: _, _, _, h, _ => h.elim
  | _ :: _, [], _, _, _, h, _ => h.elim
  | _ :: _, _ :: _, [], _, _, h, _ => h.elim
  | t :: ts, v :: vs, d :: ds, ps, hr, h, hlt => by
    obtain ⟨p, q, h1, h2, rfl⟩ := h
    simp only [rowed, List.all_cons, Bool.and_eq_true, decide_eq_true_eq] at hr
    refine ⟨p, q, Below.trod hl hr.1.1 hr.1.2 h1 hb (fun x hx => hlt x (by simp [hx])), trodAll_below hl hb ?_ h2 (fun x hx => hlt x (by simp [hx])), rfl⟩
    simpa [rowed] using hr.2

/-- The law's end. -/
theorem law_shut {H : Type} {enc : TypeId × Value → H} {P : Program} {f : Func} {s : ChangeSpec} {W W' : World} {args : Array Value} {ds gs : List (DataW H)} {before : List MemPlace} {tb : TypeId}
    (hl : laidOutB P = true) (hr : rowed P f.params.toList = true) (hres : f.resultTypes = #[tb]) (hbool : P.underlying tb = some .bool) (hv : s.vars = [])
    (hW : DataW.Whole enc P f.params.toList s.vars false W args.toList ds gs before) (hfn : s.fn H (ds ++ gs) = { results := [.lit (.bool true)], args := ds }) (hb : Below W.heap.size W W') :
    s.post enc P f false true false false W args (.bool true) W' := by
  have hW' := hW
  obtain ⟨p, q, hA, hV, rfl, _, _⟩ := hW
  rw [hv] at hV
  obtain ⟨rfl, rfl⟩ := trodVars_none hV
  have hlt : ∀ x ∈ p, x.block < W.heap.size := fun x hx => hW'.lt x (by simp [hx])
  refine ⟨ds, [], p ++ [], [], p, [], hW', ?_, ?_, ?_, hb.frame _, fun h => by cases h⟩
  · rw [hfn, hres]
    exact trodAll_mk1 (shut_bool hbool _)
  · rw [hfn]
    exact trodAll_below hl hb hr hA hlt
  · rw [hfn, hv]
    rfl
end Go.Proofs.YtmofnkinclckoaaDoor

namespace Go.Proofs.YtmofnkinclckoaaDoor

abbrev Bs := List UInt8
abbrev bytes (s : ByteArray) : Bs := s.data.toList
theorem bytes_len (s : ByteArray) : (bytes s).length = s.size := by simp [bytes]
theorem blen (s : ByteArray) : (bytes s).length = s.size := bytes_len s
theorem bsize (a : Bs) : (⟨a.toArray⟩ : ByteArray).size = a.length := by simp [ByteArray.size]
end Go.Proofs.YtmofnkinclckoaaDoor

namespace Go.Proofs.YtmofnkinclckoaaDoor


/-- What is left of a message's texts and numbers, and the body so far. -/
structure WS where
  T : List Bs
  N : List Int
  B : Bs

/-- The byte of a number at a place. -/
def byteAt (n : Int) (i : Nat) : UInt8 := UInt8.ofNat ((n / (256 ^ i : Nat)) % 256).toNat
/-- A number in so many bytes, the greatest first. -/
def be : Nat → Int → Bs
  | 0, _ => []
  | k + 1, n => byteAt n k :: be k n
theorem be_length : ∀ (k : Nat) (n : Int), (be k n).length = k
  | 0, _ => rfl
  | k + 1, n => by rw [be, List.length_cons, be_length k n]

def wNum (l m : Int) (s : WS) : Option (Int × WS) := match s.N with
  | [] => none
  | n :: ns => if l ≤ n ∧ n ≤ m then some (n, { s with N := ns }) else none
def wNumber (l m : Int) (k : Nat) (s : WS) : Option (Int × WS) := (wNum l m s).map fun p => (p.1, { p.2 with B := p.2.B ++ be k p.1 })
def wZero (s : WS) : WS := { s with B := s.B ++ [0] }
def wText (s : WS) : Option WS := match s.T with
  | [] => none
  | t :: ts => if (0 : UInt8) ∈ t then none else some { s with T := ts, B := s.B ++ (t ++ [0]) }
def rep : Nat → (WS → Option WS) → WS → Option WS
  | 0, _, s => some s
  | n + 1, f, s => (f s).bind (rep n f)
def wPair (s : WS) : Option WS := match s.T with
  | [] => none
  | t :: _ => if t = [] then none else wText s
def wPairs (s : WS) : Option WS := (wNum 0 s.T.length s).bind fun p => if p.1 % 2 = 0 then (rep p.1.toNat wPair p.2).map wZero else none
def wItem (s : WS) : Option WS := (wNumber 1 255 1 s).bind fun p => wText p.2
def wFields (s : WS) : Option WS := (wNum 0 s.T.length s).bind fun p => (rep p.1.toNat wItem p.2).map wZero
def wCounted (f : WS → Option WS) (s : WS) : Option WS := (wNumber 0 100 2 s).bind fun p => rep p.1.toNat f p.2
def wShort (s : WS) : Option WS := (wNumber (-32768) 32767 2 s).map (·.2)
def wLong (s : WS) : Option WS := (wNumber (-2147483648) 2147483647 4 s).map (·.2)
def wByte (s : WS) : Option WS := (wNumber 0 255 1 s).map (·.2)
def wRaw (n : Int) (s : WS) : Option WS := match s.T with
  | [] => none
  | t :: ts => if (t.length : Int) = n then some { s with T := ts, B := s.B ++ t } else none
def wValue (s : WS) : Option WS := (wNumber (-1) 10000 4 s).bind fun p => if p.1 < 0 then some p.2 else wRaw p.1 p.2
def wName (s : WS) : Option WS := (wText s).map fun s => { s with B := s.B ++ List.replicate 18 0 }
/-- One field. -/
def wField (c : UInt8) (s : WS) : Option WS :=
  if c = 115 then wText s
  else if c = 98 then wByte s
  else if c = 105 then wLong s
  else if c = 112 then wPairs s
  else if c = 102 then wFields s
  else if c = 99 then wCounted wShort s
  else if c = 108 then wCounted wLong s
  else if c = 118 then wCounted wValue s
  else if c = 109 then wCounted wName s
  else some s
def wAll : Bs → WS → Option WS
  | [], s => some s
  | c :: l, s => (wField c s).bind (wAll l)

/-- How much there can be yet. -/
def room (s : WS) : Nat := s.B.length + ((s.T.map fun t => t.length + 19).sum + 4 * s.N.length)

theorem room_num {l m n : Int} {s s' : WS} (h : wNum l m s = some (n, s')) : s'.B = s.B ∧ s'.T = s.T ∧ room s' + 4 = room s := by
  unfold wNum at h
  cases hN : s.N with
  | nil => rw [hN] at h; cases h
  | cons x ns =>
    rw [hN] at h
    simp only at h
    split at h
    · simp only [Option.some.injEq, Prod.mk.injEq] at h
      obtain ⟨rfl, rfl⟩ := h
      refine ⟨rfl, rfl, ?_⟩
      unfold room
      rw [hN, List.length_cons]
      show s.B.length + ((s.T.map fun t => t.length + 19).sum + 4 * ns.length) + 4 = _
      omega
    · cases h
theorem room_number {l m n : Int} {k : Nat} {s s' : WS} (h : wNumber l m k s = some (n, s')) (hk : k ≤ 4) : room s' ≤ room s ∧ s'.T = s.T := by
  unfold wNumber at h
  cases hN : wNum l m s with
  | none => rw [hN] at h; cases h
  | some p =>
    obtain ⟨x, s1⟩ := p
    rw [hN] at h
    simp only [Option.map_some, Option.some.injEq, Prod.mk.injEq] at h
    obtain ⟨rfl, rfl⟩ := h
    obtain ⟨h1, h2, h3⟩ := room_num hN
    refine ⟨?_, h2⟩
    unfold room at h3 ⊢
    show (s1.B ++ be k x).length + _ ≤ _
    rw [List.length_append, be_length]
    show s1.B.length + k + ((s1.T.map fun t => t.length + 19).sum + 4 * s1.N.length) ≤ _
    omega
theorem num_range {l m n : Int} {s s' : WS} (h : wNum l m s = some (n, s')) : l ≤ n ∧ n ≤ m := by
  unfold wNum at h
  cases hN : s.N with
  | nil => rw [hN] at h; cases h
  | cons x ns =>
    rw [hN] at h
    simp only at h
    split at h
    · rename_i hc
      have e := (Prod.mk.inj (Option.some.inj h)).1
      subst e; exact hc
    · cases h
theorem number_range {l m n : Int} {k : Nat} {s s' : WS} (h : wNumber l m k s = some (n, s')) : l ≤ n ∧ n ≤ m := by
  unfold wNumber at h
  cases hN : wNum l m s with
  | none => rw [hN] at h; cases h
  | some p =>
    obtain ⟨x, s1⟩ := p
    rw [hN] at h
    simp only [Option.map_some, Option.some.injEq, Prod.mk.injEq] at h
    obtain ⟨rfl, _⟩ := h
    exact num_range hN
theorem room_text {s s' : WS} (h : wText s = some s') : room s' + 18 ≤ room s := by
  unfold wText at h
  cases hT : s.T with
  | nil => rw [hT] at h; cases h
  | cons t ts =>
    rw [hT] at h
    simp only at h
    split at h
    · cases h
    · obtain rfl := Option.some.inj h
      unfold room
      rw [hT, List.map_cons, List.sum_cons]
      show (s.B ++ (t ++ [0])).length + ((ts.map fun t => t.length + 19).sum + 4 * s.N.length) + 18 ≤ _
      rw [List.length_append, List.length_append]
      show s.B.length + (t.length + 1) + _ + 18 ≤ _
      omega
theorem rep_succ (n : Nat) (f : WS → Option WS) (s : WS) : rep (n + 1) f s = (rep n f s).bind f := by
  induction n generalizing s with
  | zero =>
    show (f s).bind (rep 0 f) = f s
    cases f s <;> rfl
  | succ n ih =>
    rw [rep, rep]
    cases f s with
    | none => rfl
    | some s1 => exact ih s1
end Go.Proofs.YtmofnkinclckoaaDoor

namespace Go.Proofs.YtmofnkinclckoaaDoor
open Go.RowKit Go.Lib Go.WideShapes

theorem below_drewN {B : Nat} {a w : World} (h : Below B a w) (q : Nat) : Below B a (w.drewN q) := ⟨h.os, h.tape, h.output, h.size, h.block⟩

theorem _root_.Go.RowKit.Below.step {B : Nat} {a w w' : World} (h : Below B a w) (h' : Below w.heap.size w w') (hB : B ≤ w.heap.size) : Below B a w' := h.trans (h'.mono hB)

theorem ownsRow_form {w : World} {base size n : Nat} {e : TypeId} {v : Value} {xs : List Value} (h : w.ownsRow base e size v n xs) : ∃ a c, v = .slice a n c := by
  rcases h.2 with ⟨rfl, rfl⟩ | ⟨g, cap, _, rfl, _⟩
  · exact ⟨none, 0, rfl⟩
  · exact ⟨_, cap, rfl⟩

theorem own_grown {w w' : World} {base size n B : Nat} {e : TypeId} {v : Value} {xs : List Value} (h : w.ownsRow base e size v n xs) (hb : Below B w w') (hB : w.heap.size ≤ B) : w'.ownsRow base e size v n xs :=
  h.kept (row := none) ⟨hb.os, hb.tape, hb.output, hb.size, fun k hk _ => hb.block k (by omega)⟩ (by cases v.ownBlock <;> simp)

theorem step_append_own {P : Program} {w : World} {ops : Array Oper} {o : Oper} {a : Act} {K : Act → World → Prop} {Q : Exit → Act → World → Prop} {E : Prop} (hg : o.guard = none) (s x : Operand) (t : TypeId)
    (ho : o.op = .call { callee := .builtin .append, args := #[s, x], argTypes := #[t, t] })
    (base : Nat) (e : TypeId) (i : TypeInfo) (z : Value) (size bytes : Nat) (ht : P.underlying t = some (.slice e)) (hi : P.info? e = some i) (hz : i.zero = some z)
    (hsize : i.size = size) (hby : i.bytes = bytes) (hzs : z.cells.size = size) (hsz : 0 < size)
    (v : Value) (n : Nat) (xs : List Value) (hs : a.eval s = v) (hown : w.ownsRow base e size v n xs)
    (ad : Addr) (m c : Nat) (news : List Value) (hx : a.eval x = .slice (some ad) m c) (hl : news.length = m * size) (hnews : ∀ j u, news[j]? = some u → w.cell? (ad.add j) = some u) (h1 : ∀ u ∈ news, u.oneCell' = true)
    (h63 : n + m ≤ maxLen) (hbytes : ((n + m) + (n + m) / 4 + 192) * bytes ≤ 281474976710656) (hbase : base ≤ w.heap.size)
    (h : ∀ v' w', w'.ownsRow base e size v' (n + m) (xs ++ news) → w.grownBy w' v.ownBlock → K (a.put o.dst v') w') : if Region.wanted o (yielded ops a.tmps) = true then Oper.wp P o a w K Q else E := by
  have hw : Region.wanted o (yielded ops a.tmps) = true := by simp [Region.wanted, hg]
  rw [if_pos hw]
  exact wp_append_own_wide w s x t ho base e i z size bytes ht hi hz hsize hby hzs hsz v n xs hs hown ad m c news hx hl hnews h1 h63 hbytes hbase (fun v' w' h2 h3 _ => h v' w' h2 h3)

/-- What is below an own row stays when it grows. -/
theorem below_grown {w w1 w2 : World} {B : Nat} {row : Option Nat} (h : Below B w w1) (hB : B ≤ w1.heap.size) (hg : w1.grownBy w2 row) (hr : ∀ k, row = some k → B ≤ k) : Below B w w2 :=
  h.trans ⟨hg.os, hg.tape, hg.output, hg.size, fun k hk => hg.block k (by omega) (fun e => by have := hr k e.symm; omega)⟩

def setL (xs : List Value) : Nat → List Value → List Value
  | _, [] => xs
  | o, v :: r => setL (xs.set o v) (o + 1) r

section
variable {w : World} {base size n cap g : Nat} {e : TypeId} {xs : List Value}

theorem own_stored (h : w.ownsRow base e size (.slice (some ⟨g, 0, none⟩) n cap) n xs) (vs : List Value) : ∀ (o : Nat), (w.setCells g o vs).ownsRow base e size (.slice (some ⟨g, 0, none⟩) n cap) n (setL xs o vs) ∧ w.grownBy (w.setCells g o vs) (some g) := by
  induction vs generalizing w xs with
  | nil => intro o; exact ⟨h, ⟨rfl, rfl, rfl, Nat.le_refl _, fun _ _ _ => rfl⟩⟩
  | cons v r ih =>
    intro o
    obtain ⟨h1, h2⟩ := h.stored o v
    obtain ⟨h3, h4⟩ := ih h1 (o + 1)
    exact ⟨h3, ⟨h4.os.trans h2.os, h4.tape.trans h2.tape, h4.output.trans h2.output, Nat.le_trans h2.size h4.size, fun k hk hne => (h4.block k (Nat.lt_of_lt_of_le hk h2.size) hne).trans (h2.block k hk hne)⟩⟩

theorem own_room (h : w.ownsRow base e size (.slice (some ⟨g, 0, none⟩) n cap) n xs) : n ≤ cap ∧ cap ≤ maxLen ∧ base ≤ g ∧ g < w.heap.size ∧ w.shape? g = some (e, cap * size) ∧ (∀ j, w.frozen? ⟨g, j, none⟩ = false) ∧ ∀ j, j < cap * size → (w.cell? ⟨g, j, none⟩).isSome = true := by
  rcases h.2 with ⟨hv, _⟩ | ⟨g', cap', cur, hv, hb, hg, hn, hc, hcs, ht⟩
  · cases hv
  · simp only [Value.slice.injEq, Option.some.injEq, Addr.mk.injEq, and_true, true_and] at hv
    obtain ⟨rfl, rfl⟩ := hv
    refine ⟨hn, hc, hb, (Array.getElem?_eq_some_iff.1 hg).1, by simp [World.shape?, hg, hcs], fun j => by simp [World.frozen?, hg], fun j hj => ?_⟩
    simp [World.cell?, hg, Array.getElem?_eq_getElem (show j < cur.size by omega)]
end

section
variable {P : Program} (w : World)

/-- append to a row of the call's own: what it leaves lies where the row lay, or behind all. -/
theorem run_append_at (base : Nat) (t ty e : TypeId) (i : TypeInfo) (z : Value) (size bytes : Nat) (ht : P.underlying t = some (.slice e)) (hi : P.info? e = some i) (hz : i.zero = some z)
    (hsize : i.size = size) (hby : i.bytes = bytes) (hzs : z.cells.size = size) (hsz : 0 < size)
    (v : Value) (n : Nat) (xs : List Value) (hown : w.ownsRow base e size v n xs)
    (a : Addr) (m c : Nat) (news : List Value) (hl : news.length = m * size) (hnews : ∀ j u, news[j]? = some u → w.cell? (a.add j) = some u) (h1 : ∀ u ∈ news, u.oneCell' = true)
    (h63 : n + m ≤ maxLen) (hbytes : ((n + m) + (n + m) / 4 + 192) * bytes ≤ 281474976710656) (hbase : base ≤ w.heap.size) :
    ∃ v' w', (Builtin.append_ #[t, t] ty #[v, .slice (some a) m c]).run P w = .ok v' w' ∧ w'.ownsRow base e size v' (n + m) (xs ++ news) ∧ w.grownBy w' v.ownBlock ∧
      (∀ k, v'.ownBlock = some k → v.ownBlock = some k ∨ w.heap.size ≤ k) := by
  obtain ⟨v', w', hr, h2, h3, h4⟩ := run_append_own_wide (P := P) w base t ty e i z size bytes ht hi hz hsize hby hzs hsz v n xs hown a m c news hl hnews h1 h63 hbytes hbase
  have hsmall : n + m ≤ 9223372036854775807 := by simp only [maxLen] at h63; omega
  refine ⟨v', w', hr, h2, h3, fun k hk => ?_⟩
  subst hsize
  subst hby
  rcases hown.2 with ⟨rfl, rfl⟩ | ⟨g, cap, cur, rfl, hbg, hg, hnc, hcm, hcs, htake⟩
  · by_cases hm : m = 0
    · have := h4.2 ⟨rfl, hm⟩
      rw [this] at hk; cases hk
    · have hr2 := run_append_nil (P := P) w t ty e i z ht hi hz a m c news hl hnews (by omega) (by omega) (by have hb := hbytes; simp only [Nat.zero_add] at hb; exact Nat.le_trans (Nat.mul_le_mul_right _ (by omega)) hb)
      rw [hr2] at hr
      injection hr with e1 _
      rw [← e1] at hk; simp [Value.ownBlock] at hk; right; omega
  · by_cases hroom : n + m ≤ cap
    · have hfit : n * i.size + news.length ≤ cur.size := by rw [hl, hcs, ← Nat.add_mul]; exact Nat.mul_le_mul_right _ hroom
      have hr2 := run_append_room (P := P) w t ty e i ht hi g n cap cur hg a m c news hl hnews h1 hroom hfit
      rw [hr2] at hr
      injection hr with e1 _
      rw [← e1] at hk; left; exact hk
    · have holds : ∀ j u, xs[j]? = some u → w.cell? ((⟨g, 0, none⟩ : Addr).add j) = some u := hown.cells (g := g) rfl
      have hr2 := run_append_grow (P := P) w t ty e i z ht hi hz ⟨g, 0, none⟩ n cap xs hown.1 holds a m c news hl hnews (by omega) (by omega) (growslice_fits_wide (by omega) hbytes)
      rw [hr2] at hr
      injection hr with e1 _
      rw [← e1] at hk; simp [Value.ownBlock] at hk; right; omega

theorem wp_append_at {o : Oper} {a : Act} {K : Act → World → Prop} {Q : Exit → Act → World → Prop} (s x : Operand) (t : TypeId)
    (ho : o.op = .call { callee := .builtin .append, args := #[s, x], argTypes := #[t, t] })
    (base : Nat) (e : TypeId) (i : TypeInfo) (z : Value) (size bytes : Nat) (ht : P.underlying t = some (.slice e)) (hi : P.info? e = some i) (hz : i.zero = some z)
    (hsize : i.size = size) (hby : i.bytes = bytes) (hzs : z.cells.size = size) (hsz : 0 < size)
    (v : Value) (n : Nat) (xs : List Value) (hs : a.eval s = v) (hown : w.ownsRow base e size v n xs)
    (ad : Addr) (m c : Nat) (news : List Value) (hx : a.eval x = .slice (some ad) m c) (hl : news.length = m * size) (hnews : ∀ j u, news[j]? = some u → w.cell? (ad.add j) = some u) (h1 : ∀ u ∈ news, u.oneCell' = true)
    (h63 : n + m ≤ maxLen) (hbytes : ((n + m) + (n + m) / 4 + 192) * bytes ≤ 281474976710656) (hbase : base ≤ w.heap.size)
    (h : ∀ v' w', w'.ownsRow base e size v' (n + m) (xs ++ news) → w.grownBy w' v.ownBlock → (∀ k, v'.ownBlock = some k → v.ownBlock = some k ∨ w.heap.size ≤ k) → K (a.put o.dst v') w') : o.wp P a w K Q := by
  obtain ⟨v', w', hr, h2, h3, h4⟩ := run_append_at (P := P) w base t o.type e i z size bytes ht hi hz hsize hby hzs hsz v n xs hown ad m c news hl hnews h1 h63 hbytes hbase
  unfold Oper.wp execOp
  simp only [ho, resolve, invoke, builtin, Sem.run_bind, Sem.run_pure, Result.andThen_ok, List.map_toArray, List.map_cons, List.map_nil, hs, hx, hr]
  exact h v' w' h2 h3 h4

theorem wpList_append_at {ops : Array Oper} {rest : List Oper} {o : Oper} {a : Act} {Q : Exit → Act → World → Prop} (hgd : o.guard = none) (s x : Operand) (t : TypeId)
    (ho : o.op = .call { callee := .builtin .append, args := #[s, x], argTypes := #[t, t] })
    (base : Nat) (e : TypeId) (i : TypeInfo) (z : Value) (size bytes : Nat) (ht : P.underlying t = some (.slice e)) (hi : P.info? e = some i) (hz : i.zero = some z)
    (hsize : i.size = size) (hby : i.bytes = bytes) (hzs : z.cells.size = size) (hsz : 0 < size)
    (v : Value) (n : Nat) (xs : List Value) (hs : a.eval s = v) (hown : w.ownsRow base e size v n xs)
    (ad : Addr) (m c : Nat) (news : List Value) (hx : a.eval x = .slice (some ad) m c) (hl : news.length = m * size) (hnews : ∀ j u, news[j]? = some u → w.cell? (ad.add j) = some u) (h1 : ∀ u ∈ news, u.oneCell' = true)
    (h63 : n + m ≤ maxLen) (hbytes : ((n + m) + (n + m) / 4 + 192) * bytes ≤ 281474976710656) (hbase : base ≤ w.heap.size)
    (h : ∀ v' w', w'.ownsRow base e size v' (n + m) (xs ++ news) → w.grownBy w' v.ownBlock → (∀ k, v'.ownBlock = some k → v.ownBlock = some k ∨ w.heap.size ≤ k) → wpList P ops Q rest (a.put o.dst v') w') : wpList P ops Q (o :: rest) a w :=
  wpList_plain hgd fun _ hK => wp_append_at w s x t ho base e i z size bytes ht hi hz hsize hby hzs hsz v n xs hs hown ad m c news hx hl hnews h1 h63 hbytes hbase fun v' w' h2 h3 h4 => hK _ _ (h v' w' h2 h3 h4)
end
end Go.Proofs.YtmofnkinclckoaaDoor

namespace Go.Proofs.YtmofnkinclckoaaDoor
open Go.RowKit Go.Lib Go.WideShapes


/-- A row of texts that lies in w0, of which v is a slice. -/
def TextsIn (w0 : World) (v : Value) (T : List Bs) : Prop := ∃ a n c, v = .slice a n c ∧ T.length = n ∧ n ≤ c ∧ c ≤ 9223372036854775807 ∧
  (T = [] ∨ ∃ g off, a = some ⟨g, off, none⟩ ∧ g < w0.heap.size ∧ ∀ (i : Nat) (t : Bs), T[i]? = some t → w0.cell? ⟨g, off + i, none⟩ = some (.string ⟨t.toArray⟩))
/-- A row of numbers. -/
def NumsIn (w0 : World) (v : Value) (N : List Int) : Prop := ∃ a n c, v = .slice a n c ∧ N.length = n ∧ n ≤ c ∧ c ≤ 9223372036854775807 ∧
  (N = [] ∨ ∃ g off, a = some ⟨g, off, none⟩ ∧ g < w0.heap.size ∧ ∀ (i : Nat) (t : Int), N[i]? = some t → w0.cell? ⟨g, off + i, none⟩ = some (.int .i64 t))
def bcells (B : Bs) : List Value := B.map fun b => .int .u8 (b.toNat : Nat)
theorem bcells_append (a b : Bs) : bcells (a ++ b) = bcells a ++ bcells b := by simp [bcells]

/-- A writer that was made behind w0. -/
structure WAt (w0 w : World) (s : WS) (tv nv bv : Value) : Prop where
  below : Below w0.heap.size w0 w
  lt : w0.heap.size < w.heap.size
  c0 : w.cell? ⟨w0.heap.size, 0, none⟩ = some tv
  c1 : w.cell? ⟨w0.heap.size, 1, none⟩ = some nv
  c2 : w.cell? ⟨w0.heap.size, 2, none⟩ = some bv
  f0 : w.frozen? ⟨w0.heap.size, 0, none⟩ = false
  f1 : w.frozen? ⟨w0.heap.size, 1, none⟩ = false
  f2 : w.frozen? ⟨w0.heap.size, 2, none⟩ = false
  texts : TextsIn w0 tv s.T
  nums : NumsIn w0 nv s.N
  body : w.ownsRow (w0.heap.size + 1) 5 1 bv s.B.length (bcells s.B)
def IsW (w0 w : World) (s : WS) : Prop := ∃ tv nv bv, WAt w0 w s tv nv bv

def errV : Value := .iface 28 (.int .i64 2)
def Lost (w0 : World) (e : Ending) (w' : World) : Prop := e = .panicked [{ v := errV, recovered := false }] ∧ Below w0.heap.size w0 w'
/-- What an operation of a writer leaves. -/
def WOut (w0 : World) (r : Option WS) (e : Ending) (w' : World) : Prop := (∃ s', r = some s' ∧ e = .returned (.tuple #[]) ∧ IsW w0 w' s') ∨ (r = none ∧ Lost w0 e w')
def WOutN (w0 : World) (r : Option (Int × WS)) (e : Ending) (w' : World) : Prop := (∃ n s', r = some (n, s') ∧ e = .returned (.int .i64 n) ∧ IsW w0 w' s') ∨ (r = none ∧ Lost w0 e w')

theorem demand_ok (w : World) : Calls Tryd.prog 30 #[.bool true] w fun e w' => e = .returned (.tuple #[]) ∧ w = w' := by
  go_enter Tryd.func30, Tryd.ntmps30
  go_wp2
  go_end0
  exact ⟨rfl, rfl⟩
theorem demand_no (w : World) : Calls Tryd.prog 30 #[.bool false] w fun e w' => e = .panicked [{ v := errV, recovered := false }] ∧ w = w' := by
  unfold errV
  go_enter Tryd.func30, Tryd.ntmps30
  go_wp2
  exact ⟨rfl, rfl, rfl⟩

theorem WAt.room_blocks {w0 w : World} {s : WS} {tv nv bv : Value} (h : WAt w0 w s tv nv bv) : ∃ a c, bv = .slice a s.B.length c := ownsRow_form h.body
theorem own_other {w : World} {p i n : Nat} {e : TypeId} {v x : Value} {xs : List Value} (h : w.ownsRow (p + 1) e 1 v n xs) : (w.setCell ⟨p, i, none⟩ x).ownsRow (p + 1) e 1 v n xs := by
  refine h.kept (row := some p) ?_ ?_
  · exact Lib.grownBy_setCell w p i x
  · rcases h.2 with ⟨hv, _⟩ | ⟨g, c, cur, hv, hb, _⟩
    · left; rw [hv]; rfl
    · right
      rw [hv]
      intro e
      have : g = p := Option.some.inj e
      omega
/-- A cell of the writer's own written. -/
theorem WAt.put0 {w0 w : World} {s : WS} {tv nv bv : Value} (h : WAt w0 w s tv nv bv) {T : List Bs} {tv' : Value} (hT : TextsIn w0 tv' T) : WAt w0 (w.setCell ⟨w0.heap.size, 0, none⟩ tv') { s with T := T } tv' nv bv := by
  have n1 : (⟨w0.heap.size, 0, none⟩ : Addr) ≠ ⟨w0.heap.size, 1, none⟩ := by intro e; injection e with _ e; cases e
  have n2 : (⟨w0.heap.size, 0, none⟩ : Addr) ≠ ⟨w0.heap.size, 2, none⟩ := by intro e; injection e with _ e; cases e
  exact ⟨h.below.setCell (Nat.le_refl _) _, by rw [World.size_setCell]; exact h.lt, World.cell?_setCell_same _ _ _ h.c0, (World.cell?_setCell_other _ _ _ _ n1).trans h.c1, (World.cell?_setCell_other _ _ _ _ n2).trans h.c2, by rw [World.frozen?_setCell]; exact h.f0, by rw [World.frozen?_setCell]; exact h.f1, by rw [World.frozen?_setCell]; exact h.f2, hT, h.nums, own_other h.body⟩
theorem WAt.put1 {w0 w : World} {s : WS} {tv nv bv : Value} (h : WAt w0 w s tv nv bv) {N : List Int} {nv' : Value} (hN : NumsIn w0 nv' N) : WAt w0 (w.setCell ⟨w0.heap.size, 1, none⟩ nv') { s with N := N } tv nv' bv := by
  have n0 : (⟨w0.heap.size, 1, none⟩ : Addr) ≠ ⟨w0.heap.size, 0, none⟩ := by intro e; injection e with _ e; cases e
  have n2 : (⟨w0.heap.size, 1, none⟩ : Addr) ≠ ⟨w0.heap.size, 2, none⟩ := by intro e; injection e with _ e; cases e
  exact ⟨h.below.setCell (Nat.le_refl _) _, by rw [World.size_setCell]; exact h.lt, (World.cell?_setCell_other _ _ _ _ n0).trans h.c0, World.cell?_setCell_same _ _ _ h.c1, (World.cell?_setCell_other _ _ _ _ n2).trans h.c2, by rw [World.frozen?_setCell]; exact h.f0, by rw [World.frozen?_setCell]; exact h.f1, by rw [World.frozen?_setCell]; exact h.f2, h.texts, hN, own_other h.body⟩
/-- The body, another row of the writer's own: the world grew, and the cell was written. -/
theorem WAt.put2 {w0 w w1 : World} {s : WS} {tv nv bv bv' : Value} {B : Bs} (h : WAt w0 w s tv nv bv) (hB : Below (w0.heap.size + 1) w w1) (hb : w1.ownsRow (w0.heap.size + 1) 5 1 bv' B.length (bcells B)) : WAt w0 (w1.setCell ⟨w0.heap.size, 2, none⟩ bv') { s with B := B } tv nv bv' := by
  have n0 : (⟨w0.heap.size, 2, none⟩ : Addr) ≠ ⟨w0.heap.size, 0, none⟩ := by intro e; injection e with _ e; cases e
  have n1 : (⟨w0.heap.size, 2, none⟩ : Addr) ≠ ⟨w0.heap.size, 1, none⟩ := by intro e; injection e with _ e; cases e
  have e0 := hB.cell (p := ⟨w0.heap.size, 0, none⟩) (Nat.lt_succ_self _)
  have e1 := hB.cell (p := ⟨w0.heap.size, 1, none⟩) (Nat.lt_succ_self _)
  have e2 := hB.cell (p := ⟨w0.heap.size, 2, none⟩) (Nat.lt_succ_self _)
  have g0 := hB.frozen (p := ⟨w0.heap.size, 0, none⟩) (Nat.lt_succ_self _)
  have g1 := hB.frozen (p := ⟨w0.heap.size, 1, none⟩) (Nat.lt_succ_self _)
  have g2 := hB.frozen (p := ⟨w0.heap.size, 2, none⟩) (Nat.lt_succ_self _)
  exact ⟨(h.below.trans (hB.mono (Nat.le_succ _))).setCell (Nat.le_refl _) _, by rw [World.size_setCell]; exact Nat.lt_of_lt_of_le h.lt hB.size, (World.cell?_setCell_other _ _ _ _ n0).trans (e0.trans h.c0), (World.cell?_setCell_other _ _ _ _ n1).trans (e1.trans h.c1), World.cell?_setCell_same _ _ _ (e2.trans h.c2), by rw [World.frozen?_setCell]; exact g0.trans h.f0, by rw [World.frozen?_setCell]; exact g1.trans h.f1, by rw [World.frozen?_setCell]; exact g2.trans h.f2, h.texts, h.nums, own_other hb⟩

theorem WAt.grew {w0 w w1 : World} {s : WS} {tv nv bv : Value} (h : WAt w0 w s tv nv bv) (hg : w.grownBy w1 bv.ownBlock) : Below (w0.heap.size + 1) w w1 := below_grown (Below.refl _ w) h.lt hg (fun q hq => (h.body.lt q hq).1)
theorem WAt.grewA {w0 w w1 : World} {s : WS} {tv nv bv : Value} {o : Obj} (h : WAt w0 w s tv nv bv) (hg : (w.alloc o).grownBy w1 bv.ownBlock) : Below (w0.heap.size + 1) w w1 := below_grown ((Below.refl (w0.heap.size + 1) w).alloc h.lt _) (by rw [World.size_alloc]; exact Nat.le_succ_of_le h.lt) hg (fun q hq => (h.body.lt q hq).1)
theorem WAt.after {w0 w w1 : World} {s : WS} {tv nv bv : Value} (h : WAt w0 w s tv nv bv) (hB : Below (w0.heap.size + 1) w w1) : w1.cell? ⟨w0.heap.size, 2, none⟩ = some bv ∧ w1.frozen? ⟨w0.heap.size, 2, none⟩ = false ∧ w0.heap.size < w1.heap.size :=
  ⟨(hB.cell (p := ⟨w0.heap.size, 2, none⟩) (Nat.lt_succ_self _)).trans h.c2, (hB.frozen (p := ⟨w0.heap.size, 2, none⟩) (Nat.lt_succ_self _)).trans h.f2, Nat.lt_of_lt_of_le h.lt hB.size⟩
/-- The row behind its first text. -/
theorem TextsIn.tail {w0 : World} {a : Option Addr} {n c : Nat} {t : Bs} {ts : List Bs} (h : TextsIn w0 (.slice a n c) (t :: ts)) : ∃ g off, a = some ⟨g, off, none⟩ ∧ g < w0.heap.size ∧ w0.cell? ⟨g, off, none⟩ = some (.string ⟨t.toArray⟩) ∧ 1 ≤ n ∧ n ≤ c ∧ c ≤ 9223372036854775807 ∧ ts.length = n - 1 ∧ (1 < c → TextsIn w0 (.slice (some ⟨g, off + 1, none⟩) (n - 1) (c - 1)) ts) ∧ (c = 1 → ∀ a', TextsIn w0 (.slice a' 0 0) ts) := by
  obtain ⟨a', n', c', hv, hl, hn, hc, hr⟩ := h
  simp only [Value.slice.injEq] at hv
  obtain ⟨rfl, rfl, rfl⟩ := hv
  rcases hr with hr | ⟨g, off, rfl, hg, hcell⟩
  · cases hr
  · rw [List.length_cons] at hl
    refine ⟨g, off, rfl, hg, hcell 0 t rfl, by omega, hn, hc, by omega, fun _ => ⟨_, _, _, rfl, by omega, by omega, by omega, .inr ⟨g, off + 1, rfl, hg, fun i x hx => ?_⟩⟩, fun h1 a' => ⟨_, _, _, rfl, by omega, Nat.le_refl _, by omega, .inl (List.length_eq_zero_iff.1 (by omega))⟩⟩
    have := hcell (i + 1) x hx
    rwa [show off + (i + 1) = off + 1 + i by omega] at this
theorem NumsIn.tail {w0 : World} {a : Option Addr} {n c : Nat} {t : Int} {ts : List Int} (h : NumsIn w0 (.slice a n c) (t :: ts)) : ∃ g off, a = some ⟨g, off, none⟩ ∧ g < w0.heap.size ∧ w0.cell? ⟨g, off, none⟩ = some (.int .i64 t) ∧ 1 ≤ n ∧ n ≤ c ∧ c ≤ 9223372036854775807 ∧ ts.length = n - 1 ∧ (1 < c → NumsIn w0 (.slice (some ⟨g, off + 1, none⟩) (n - 1) (c - 1)) ts) ∧ (c = 1 → ∀ a', NumsIn w0 (.slice a' 0 0) ts) := by
  obtain ⟨a', n', c', hv, hl, hn, hc, hr⟩ := h
  simp only [Value.slice.injEq] at hv
  obtain ⟨rfl, rfl, rfl⟩ := hv
  rcases hr with hr | ⟨g, off, rfl, hg, hcell⟩
  · cases hr
  · rw [List.length_cons] at hl
    refine ⟨g, off, rfl, hg, hcell 0 t rfl, by omega, hn, hc, by omega, fun _ => ⟨_, _, _, rfl, by omega, by omega, by omega, .inr ⟨g, off + 1, rfl, hg, fun i x hx => ?_⟩⟩, fun h1 a' => ⟨_, _, _, rfl, by omega, Nat.le_refl _, by omega, .inl (List.length_eq_zero_iff.1 (by omega))⟩⟩
    have := hcell (i + 1) x hx
    rwa [show off + (i + 1) = off + 1 + i by omega] at this

/-- What taking a text, or a number, leaves. -/
def NextT (w0 : World) (s : WS) (e : Ending) (w' : World) : Prop := (∃ t ts, s.T = t :: ts ∧ e = .returned (.string ⟨t.toArray⟩) ∧ IsW w0 w' { s with T := ts }) ∨ (s.T = [] ∧ Lost w0 e w')

set_option maxRecDepth 100000 in
set_option maxHeartbeats 4000000 in
theorem nexttext_any (w0 w : World) (s : WS) (h : IsW w0 w s) :
    Calls Tryd.prog 62 #[.pointer (some ⟨w0.heap.size, 0, none⟩)] w (NextT w0 s) := by
  obtain ⟨tv, nv, bv, hW⟩ := h
  obtain ⟨a, n, c, rfl, hl, hn, hc, _⟩ := hW.texts
  have c0 := hW.c0
  have f0 := hW.f0
  have HW := Lib.hid hW
  obtain ⟨T, N, B⟩ := s
  clear hW
  cases T with
  | nil =>
    obtain rfl : 0 = n := hl
    go_enter Tryd.func62, Tryd.ntmps62
    go_wp2_with fail
    refine (demand_no _).mono ?_; rintro e w1 ⟨rfl, rfl⟩
    go_wp2_with fail
    exact ⟨rfl, .inr ⟨rfl, rfl, HW.out.below⟩⟩
  | cons t ts =>
    obtain ⟨g, off, rfl, hg, hcell, h1, _, _, hts, hA, hB⟩ := HW.out.texts.tail
    have d0 := (HW.out.below.cell (p := ⟨g, off, none⟩) hg).trans hcell
    have h1' : (1 : Int) ≤ n := by omega
    have hn' : (n : Int) ≤ c := by omega
    have h0' : 0 < n := by omega
    have HA := Lib.hid hA; have HB := Lib.hid hB
    clear hl hA hB hcell
    by_cases hc1 : c = 1
    · subst hc1
      obtain rfl : n = 1 := by omega
      have HP := Lib.hid (HW.out.put0 (HB.out rfl (some ⟨g, off, none⟩)))
      go_enter Tryd.func62, Tryd.ntmps62
      go_wp2_with fail
      refine (demand_ok _).mono ?_; rintro e w1 ⟨rfl, rfl⟩
      go_wp2_with fail
      go_ret
      exact .inl ⟨t, ts, rfl, rfl, _, _, _, HP.out⟩
    · have hc2 : (2 : Int) ≤ c := by omega
      have HP := Lib.hid (HW.out.put0 (HA.out (by omega)))
      go_enter Tryd.func62, Tryd.ntmps62
      go_wp2_with fail
      refine (demand_ok _).mono ?_; rintro e w1 ⟨rfl, rfl⟩
      go_wp2_with fail
      go_ret
      exact .inl ⟨t, ts, rfl, rfl, _, _, _, HP.out⟩

set_option maxRecDepth 100000 in
set_option maxHeartbeats 4000000 in
theorem nextnum_any (w0 w : World) (s : WS) (l m : Int) (h : IsW w0 w s) :
    Calls Tryd.prog 65 #[.pointer (some ⟨w0.heap.size, 0, none⟩), .int .i64 l, .int .i64 m] w (WOutN w0 (wNum l m s)) := by
  obtain ⟨tv, nv, bv, hW⟩ := h
  obtain ⟨a, n, c, rfl, hl, hn, hc, _⟩ := hW.nums
  have c1 := hW.c1
  have f1 := hW.f1
  have HW := Lib.hid hW
  obtain ⟨T, N, B⟩ := s
  clear hW
  cases N with
  | nil =>
    obtain rfl : 0 = n := hl
    rw [show wNum l m ⟨T, [], B⟩ = none from rfl]
    go_enter Tryd.func65, Tryd.ntmps65
    go_wp2_with fail
    refine (demand_no _).mono ?_; rintro e w1 ⟨rfl, rfl⟩
    go_wp2_with fail
    exact ⟨rfl, .inr ⟨rfl, rfl, HW.out.below⟩⟩
  | cons t ts =>
    obtain ⟨g, off, rfl, hg, hcell, h1, _, _, hts, hA, hB⟩ := HW.out.nums.tail
    have d0 := (HW.out.below.cell (p := ⟨g, off, none⟩) hg).trans hcell
    have h1' : (1 : Int) ≤ n := by omega
    have hn' : (n : Int) ≤ c := by omega
    have h0' : 0 < n := by omega
    have HA := Lib.hid hA; have HB := Lib.hid hB
    clear hl hA hB hcell
    by_cases hr : l ≤ t ∧ t ≤ m
    · rw [show wNum l m ⟨T, t :: ts, B⟩ = some (t, ⟨T, ts, B⟩) by unfold wNum; simp only; rw [if_pos hr]]
      obtain ⟨hr1, hr2⟩ := hr
      by_cases hc1 : c = 1
      · subst hc1
        obtain rfl : n = 1 := by omega
        have HP := Lib.hid (HW.out.put1 (HB.out rfl (some ⟨g, off, none⟩)))
        go_enter Tryd.func65, Tryd.ntmps65
        go_wp2_with fail
        refine (demand_ok _).mono ?_; rintro e w1 ⟨rfl, rfl⟩
        go_wp2_with fail
        refine (demand_ok _).mono ?_; rintro e w1 ⟨rfl, rfl⟩
        go_wp2_with fail
        go_ret
        exact .inl ⟨t, _, rfl, rfl, _, _, _, HP.out⟩
      · have hc2 : (2 : Int) ≤ c := by omega
        have HP := Lib.hid (HW.out.put1 (HA.out (by omega)))
        go_enter Tryd.func65, Tryd.ntmps65
        go_wp2_with fail
        refine (demand_ok _).mono ?_; rintro e w1 ⟨rfl, rfl⟩
        go_wp2_with fail
        refine (demand_ok _).mono ?_; rintro e w1 ⟨rfl, rfl⟩
        go_wp2_with fail
        go_ret
        exact .inl ⟨t, _, rfl, rfl, _, _, _, HP.out⟩
    · rw [show wNum l m ⟨T, t :: ts, B⟩ = none by unfold wNum; simp only; rw [if_neg hr]]
      by_cases hr1 : l ≤ t
      · have hr2 : m < t := by omega
        have hr3 : decide (t ≤ m) = false := by simp; omega
        clear hr
        go_enter Tryd.func65, Tryd.ntmps65
        go_wp2_with fail
        refine (demand_ok _).mono ?_; rintro e w1 ⟨rfl, rfl⟩
        go_wp2_with fail
        refine (demand_no _).mono ?_; rintro e w1 ⟨rfl, rfl⟩
        go_wp2_with fail
        exact ⟨rfl, .inr ⟨rfl, rfl, HW.out.below⟩⟩
      · have hr2 : t < l := by omega
        clear hr hr1
        go_enter Tryd.func65, Tryd.ntmps65
        go_wp2_with fail
        refine (demand_ok _).mono ?_; rintro e w1 ⟨rfl, rfl⟩
        go_wp2_with fail
        refine (demand_no _).mono ?_; rintro e w1 ⟨rfl, rfl⟩
        go_wp2_with fail
        exact ⟨rfl, .inr ⟨rfl, rfl, HW.out.below⟩⟩

theorem info_u8 : (Tryd.prog.info? 5).map (fun i => (i.zero, i.size, i.bytes)) = some (some (.int .u8 0), 1, 1) := by kernel_rfl

set_option maxRecDepth 100000 in
set_option maxHeartbeats 4000000 in
theorem zero_any (w0 w : World) (s : WS) (hr : s.B.length ≤ 1000000) (h : IsW w0 w s) :
    Calls Tryd.prog 64 #[.pointer (some ⟨w0.heap.size, 0, none⟩)] w (WOut w0 (some (wZero s))) := by
  obtain ⟨i0, hi, y0, y1, y2⟩ := info_parts info_u8
  obtain ⟨tv, nv, bv, hW⟩ := h
  obtain ⟨a, c, rfl⟩ := hW.room_blocks
  have c2 := hW.c2
  have f2 := hW.f2
  have hz := hW.lt
  have HW := Lib.hid hW
  clear hW
  go_enter Tryd.func64, Tryd.ntmps64
  go_wp2_with (at_builtin; refine wpList_append_at _ rfl (.tmp 6) (.tmp 7) 57 rfl (w0.heap.size + 1) 5 i0 (.int .u8 0) 1 1 Tryd.underlying57 hi y0 y1 y2 rfl (by decide) (.slice a s.B.length c) s.B.length (bcells s.B) rfl (HW.out.body.alloc _) ⟨w.heap.size, 0, none⟩ 1 1 [.int .u8 0] rfl rfl (fun j u h => by rw [Go.WideShapes.add_plain, Nat.zero_add, ← h]; exact (World.cell?_alloc_new w _ _ j).trans (by simp)) (by intro u hu; simp at hu; rcases hu with rfl; rfl) (by unfold maxLen; omega) (by omega) (by simp; omega) ?_)
  intro v' w1 hO hg _
  obtain ⟨a', c', rfl⟩ := ownsRow_form hO
  have HB := Lib.hid (HW.out.grewA hg)
  obtain ⟨e2, g2, hz1⟩ := HW.out.after HB.out
  have HP := Lib.hid (HW.out.put2 (B := s.B ++ [0]) HB.out (by rw [bcells_append, List.length_append]; exact hO))
  clear hO hg c2 f2
  go_wp2_with fail
  go_end0
  exact .inl ⟨_, rfl, rfl, _, _, _, HP.out⟩

/-- An append whose outcome is known. -/
theorem wpList_append_eq {P : Program} {w : World} {ops : Array Oper} {rest : List Oper} {o : Oper} {a : Act} {Q : Exit → Act → World → Prop} (hgd : o.guard = none) (s x : Operand) (t u : TypeId)
    (ho : o.op = .call { callee := .builtin .append, args := #[s, x], argTypes := #[t, u] }) (vs vx : Value) (hs : a.eval s = vs) (hx : a.eval x = vx) (v' : Value) (w' : World)
    (hrun : (Builtin.append_ #[t, u] o.type #[vs, vx]).run P w = .ok v' w') (h : wpList P ops Q rest (a.put o.dst v') w') : wpList P ops Q (o :: rest) a w :=
  wpList_plain hgd fun _ hK => by
    unfold Oper.wp execOp
    simp only [ho, resolve, invoke, builtin, Sem.run_bind, Sem.run_pure, Result.andThen_ok, List.map_toArray, List.map_cons, List.map_nil, hs, hx, hrun]
    exact hK _ _ h

set_option maxRecDepth 100000 in
set_option maxHeartbeats 4000000 in
/-- A text put behind the body, as it is. -/
theorem put_text {w0 w : World} {s : WS} {tv nv : Value} {a : Option Addr} {c : Nat} (X : ByteArray) (hr : s.B.length ≤ 1000000) (hx : X.size ≤ 1000000) (h : WAt w0 w s tv nv (.slice a s.B.length c)) :
    ∃ a' c' w1, (Builtin.append_ #[57, 9] 57 #[.slice a s.B.length c, .string X]).run Tryd.prog w = .ok (.slice a' (s.B.length + X.size) c') w1 ∧ w1.cell? ⟨w0.heap.size, 2, none⟩ = some (.slice a s.B.length c) ∧ w1.frozen? ⟨w0.heap.size, 2, none⟩ = false ∧ w0.heap.size < w1.heap.size ∧ WAt w0 (w1.setCell ⟨w0.heap.size, 2, none⟩ (.slice a' (s.B.length + X.size) c')) { s with B := s.B ++ bytes X } tv nv (.slice a' (s.B.length + X.size) c') := by
  obtain ⟨i0, hi, y0, y1, y2⟩ := info_parts info_u8
  obtain ⟨v', w1, hrun, hO, hg, _⟩ := run_append_own_string (P := Tryd.prog) w (w0.heap.size + 1) 57 9 57 5 i0 Tryd.underlying57 Tryd.underlying9 hi y0 y1 y2 _ _ _ h.body X (by unfold maxLen; omega) (by omega) h.lt
  obtain ⟨a', c', rfl⟩ := ownsRow_form hO
  obtain ⟨e2, g2, hz1⟩ := h.after (h.grew hg)
  refine ⟨a', c', w1, hrun, e2, g2, hz1, h.put2 (B := s.B ++ bytes X) (h.grew hg) ?_⟩
  rw [bcells_append, List.length_append, blen]
  exact hO
end Go.Proofs.YtmofnkinclckoaaDoor

namespace Go.Proofs.YtmofnkinclckoaaDoor
open Go.RowKit Go.Lib Go.WideShapes

theorem WAt.grewD {w0 w w1 : World} {s : WS} {tv nv bv : Value} {o : Obj} (h : WAt w0 w s tv nv bv) (hg : (w.alloc o).drew.grownBy w1 bv.ownBlock) : Below (w0.heap.size + 1) w w1 :=
  below_grown ((Below.refl (w0.heap.size + 1) w).alloc h.lt _).drew (by show _ ≤ (w.alloc o).heap.size; rw [World.size_alloc]; exact Nat.le_succ_of_le h.lt) hg (fun q hq => (h.body.lt q hq).1)
theorem byte_wrap (n : Int) (i : Nat) : IntKind.u8.wrap (n / (256 ^ i : Nat)) = ((byteAt n i).toNat : Nat) := by
  unfold byteAt
  rw [UInt8.toNat_ofNat']
  have h1 : 0 ≤ n / (256 ^ i : Nat) % 256 := Int.emod_nonneg _ (by decide)
  have h2 : n / (256 ^ i : Nat) % 256 < 256 := Int.emod_lt_of_pos _ (by decide)
  have e : IntKind.u8.wrap (n / (256 ^ i : Nat)) = n / (256 ^ i : Nat) % 256 := by
    simp [IntKind.wrap, IntKind.bits, IntKind.signed]
  rw [e]
  omega

set_option maxRecDepth 100000 in
set_option maxHeartbeats 8000000 in
theorem number_anyM (w0 w : World) (s : WS) (l m : Int) (k : Nat) (hk : 1 ≤ k ∧ k ≤ 4) (hl : -2147483648 ≤ l) (hm : m ≤ 2147483647) (hr : s.B.length ≤ 900000) (h : IsW w0 w s) :
    Calls Tryd.prog 42 #[.pointer (some ⟨w0.heap.size, 0, none⟩), .int .i64 l, .int .i64 m, .int .i64 k] w (WOutN w0 (wNumber l m k s)) := by
  obtain ⟨i0, hi, y0, y1, y2⟩ := info_parts info_u8
  have HN := Lib.hid (nextnum_any w0 w s l m h)
  obtain ⟨hk1, hk4⟩ := hk
  clear h
  unfold wNumber
  generalize hx : wNum l m s = r at HN ⊢
  have HX := Lib.hid hx
  clear hx
  go_enter Tryd.func42, Tryd.ntmps42
  go_wp2_with fail
  refine HN.out.mono ?_; rintro e w1 (⟨n, s1, rfl, rfl, hW⟩ | ⟨rfl, rfl, hB⟩)
  · have HW := Lib.hid hW
    have hs1 := room_num HX.out
    have hB1 : s1.B.length ≤ 900000 := by rw [hs1.1]; exact hr
    have hn : l ≤ n ∧ n ≤ m := by
      have := HX.out
      unfold wNum at this
      cases hN : s.N with
      | nil => rw [hN] at this; cases this
      | cons x ns =>
        rw [hN] at this
        simp only at this
        split at this
        · rename_i hc
          have e := (Prod.mk.inj (Option.some.inj this)).1
          subst e; exact hc
        · cases this
    obtain ⟨hn1, hn2⟩ := hn
    have hn3 : -2147483648 ≤ n := by omega
    have hn4 : n ≤ 2147483647 := by omega
    clear hW hs1 HX HN hn1 hn2 hl hm
    obtain ⟨T1, N1, B1⟩ := s1
    have hB1 : B1.length ≤ 900000 := hB1
    go_wp2_with fail
    go_loopg [10] k (fun g i wr => ∃ (j : Nat) (P : Bs), i = .int .i64 ((j : Int) - 1) ∧ j ≤ k ∧ g = j ∧ P ++ be j n = be k n ∧ IsW w0 wr ⟨T1, N1, B1 ++ P⟩)
    case atStart => exact ⟨k, [], rfl, Nat.le_refl _, rfl, rfl, by rw [List.append_nil]; exact HW.out⟩
    case round =>
      obtain ⟨j, P, rfl, hj, hg, hP, hWP⟩ := hrel
      have HP := Lib.hid hP; have HG := Lib.hid hg
      obtain ⟨tv, nv, bv, hWP⟩ := hWP
      obtain ⟨a, c, rfl⟩ := hWP.room_blocks
      have hPl : P.length ≤ 4 := by have := congrArg List.length hP; rw [List.length_append, be_length, be_length] at this; omega
      obtain ⟨BL, hBL⟩ : ∃ BL : Nat, BL = (B1 ++ P).length := ⟨_, rfl⟩
      have hBl : BL ≤ 900004 := by rw [hBL, List.length_append]; omega
      have HBL := Lib.hid hBL
      rw [show (WS.mk T1 N1 (B1 ++ P)).B.length = BL from hBL.symm] at hWP
      have HBODY := Lib.hid (show wr.ownsRow (w0.heap.size + 1) 5 1 (.slice a BL c) BL (bcells (B1 ++ P)) by have := hWP.body; rw [show (WS.mk T1 N1 (B1 ++ P)).B.length = BL from hBL.symm] at this; exact this)
      have c2 := hWP.c2
      have f2 := hWP.f2
      have hz := hWP.lt
      have HWP := Lib.hid hWP
      clear hP hg hWP hBL
      by_cases h0 : 1 ≤ j
      · rcases (by omega : j = 1 ∨ j = 2 ∨ j = 3 ∨ j = 4) with rfl | rfl | rfl | rfl
        · have hw : IntKind.i64.wrap 0 = 0 := rfl
          have HV := Lib.hid (show IntKind.u8.wrap n = ((byteAt n 0).toNat : Nat) from by have := byte_wrap n 0; rw [show ((256 ^ 0 : Nat) : Int) = 1 from rfl, Int.ediv_one] at this; exact this)
          go_upto_region 5 with (fail)
          go_region_law (refine step_append_own rfl (.tmp 25) (.tmp 31) 57 rfl (w0.heap.size + 1) 5 i0 (.int .u8 0) 1 1 Tryd.underlying57 hi y0 y1 y2 rfl (by decide) (.slice a BL c) BL (bcells (B1 ++ P)) (by simp [Act.eval]) (HBODY.out.drew.alloc _) ⟨wr.heap.size, 0, none⟩ 1 1 [.int .u8 (IntKind.u8.wrap n)] (by simp [Act.eval]) rfl ?c1 ?c2 ?c3 ?c4 ?c5 ?_; (case c1 => (intro j u h; rw [Go.WideShapes.add_plain, Nat.zero_add, ← h]; exact (World.cell?_alloc_new wr _ _ j).trans (by simp))); (case c2 => (intro u hu; simp at hu; rcases hu with rfl; rfl)); (case c3 => (unfold maxLen; omega)); (case c4 => omega); (case c5 => (first | omega | (simp; omega))); intro v' w5 hO5 hg5; obtain ⟨a', c', rfl⟩ := ownsRow_form hO5; have HB5 := Lib.hid (HWP.out.grewD hg5); obtain ⟨e2, g2, hz1⟩ := HWP.out.after HB5.out; rw [HV.out] at hO5; have HP5 := Lib.hid (HWP.out.put2 (B := (B1 ++ P) ++ [byteAt n 0]) HB5.out (by rw [bcells_append, List.length_append, ← HBL.out]; exact hO5)); clear hO5 hg5)
          all_goals
            go_wp2_with fail
            go_roundg 0
            case measure => have := HG.out; omega
            case rel => exact ⟨0, P ++ [byteAt n 0], by first | rfl | (congr 1; omega) | go_num, by omega, rfl, by rw [List.append_assoc]; exact HP.out, _, _, _, by rw [← List.append_assoc]; exact HP5.out⟩
        · have hw : IntKind.i64.wrap 8 = 8 := rfl
          have HV := Lib.hid (show IntKind.u8.wrap (n / 256) = ((byteAt n 1).toNat : Nat) from byte_wrap n 1)
          go_upto_region 5 with (fail)
          go_region_law (refine step_append_own rfl (.tmp 25) (.tmp 31) 57 rfl (w0.heap.size + 1) 5 i0 (.int .u8 0) 1 1 Tryd.underlying57 hi y0 y1 y2 rfl (by decide) (.slice a BL c) BL (bcells (B1 ++ P)) (by simp [Act.eval]) (HBODY.out.drew.alloc _) ⟨wr.heap.size, 0, none⟩ 1 1 [.int .u8 (IntKind.u8.wrap (n / 256))] (by simp [Act.eval]) rfl ?c1 ?c2 ?c3 ?c4 ?c5 ?_; (case c1 => (intro j u h; rw [Go.WideShapes.add_plain, Nat.zero_add, ← h]; exact (World.cell?_alloc_new wr _ _ j).trans (by simp))); (case c2 => (intro u hu; simp at hu; rcases hu with rfl; rfl)); (case c3 => (unfold maxLen; omega)); (case c4 => omega); (case c5 => (first | omega | (simp; omega))); intro v' w5 hO5 hg5; obtain ⟨a', c', rfl⟩ := ownsRow_form hO5; have HB5 := Lib.hid (HWP.out.grewD hg5); obtain ⟨e2, g2, hz1⟩ := HWP.out.after HB5.out; rw [HV.out] at hO5; have HP5 := Lib.hid (HWP.out.put2 (B := (B1 ++ P) ++ [byteAt n 1]) HB5.out (by rw [bcells_append, List.length_append, ← HBL.out]; exact hO5)); clear hO5 hg5)
          all_goals
            go_wp2_with fail
            go_roundg 1
            case measure => have := HG.out; omega
            case rel => exact ⟨1, P ++ [byteAt n 1], by first | rfl | (congr 1; omega) | go_num, by omega, rfl, by rw [List.append_assoc]; exact HP.out, _, _, _, by rw [← List.append_assoc]; exact HP5.out⟩
        · have hw : IntKind.i64.wrap 16 = 16 := rfl
          have HV := Lib.hid (show IntKind.u8.wrap (n / 65536) = ((byteAt n 2).toNat : Nat) from byte_wrap n 2)
          go_upto_region 5 with (fail)
          go_region_law (refine step_append_own rfl (.tmp 25) (.tmp 31) 57 rfl (w0.heap.size + 1) 5 i0 (.int .u8 0) 1 1 Tryd.underlying57 hi y0 y1 y2 rfl (by decide) (.slice a BL c) BL (bcells (B1 ++ P)) (by simp [Act.eval]) (HBODY.out.drew.alloc _) ⟨wr.heap.size, 0, none⟩ 1 1 [.int .u8 (IntKind.u8.wrap (n / 65536))] (by simp [Act.eval]) rfl ?c1 ?c2 ?c3 ?c4 ?c5 ?_; (case c1 => (intro j u h; rw [Go.WideShapes.add_plain, Nat.zero_add, ← h]; exact (World.cell?_alloc_new wr _ _ j).trans (by simp))); (case c2 => (intro u hu; simp at hu; rcases hu with rfl; rfl)); (case c3 => (unfold maxLen; omega)); (case c4 => omega); (case c5 => (first | omega | (simp; omega))); intro v' w5 hO5 hg5; obtain ⟨a', c', rfl⟩ := ownsRow_form hO5; have HB5 := Lib.hid (HWP.out.grewD hg5); obtain ⟨e2, g2, hz1⟩ := HWP.out.after HB5.out; rw [HV.out] at hO5; have HP5 := Lib.hid (HWP.out.put2 (B := (B1 ++ P) ++ [byteAt n 2]) HB5.out (by rw [bcells_append, List.length_append, ← HBL.out]; exact hO5)); clear hO5 hg5)
          all_goals
            go_wp2_with fail
            go_roundg 2
            case measure => have := HG.out; omega
            case rel => exact ⟨2, P ++ [byteAt n 2], by first | rfl | (congr 1; omega) | go_num, by omega, rfl, by rw [List.append_assoc]; exact HP.out, _, _, _, by rw [← List.append_assoc]; exact HP5.out⟩
        · have hw : IntKind.i64.wrap 24 = 24 := rfl
          have HV := Lib.hid (show IntKind.u8.wrap (n / 16777216) = ((byteAt n 3).toNat : Nat) from byte_wrap n 3)
          go_upto_region 5 with (fail)
          go_region_law (refine step_append_own rfl (.tmp 25) (.tmp 31) 57 rfl (w0.heap.size + 1) 5 i0 (.int .u8 0) 1 1 Tryd.underlying57 hi y0 y1 y2 rfl (by decide) (.slice a BL c) BL (bcells (B1 ++ P)) (by simp [Act.eval]) (HBODY.out.drew.alloc _) ⟨wr.heap.size, 0, none⟩ 1 1 [.int .u8 (IntKind.u8.wrap (n / 16777216))] (by simp [Act.eval]) rfl ?c1 ?c2 ?c3 ?c4 ?c5 ?_; (case c1 => (intro j u h; rw [Go.WideShapes.add_plain, Nat.zero_add, ← h]; exact (World.cell?_alloc_new wr _ _ j).trans (by simp))); (case c2 => (intro u hu; simp at hu; rcases hu with rfl; rfl)); (case c3 => (unfold maxLen; omega)); (case c4 => omega); (case c5 => (first | omega | (simp; omega))); intro v' w5 hO5 hg5; obtain ⟨a', c', rfl⟩ := ownsRow_form hO5; have HB5 := Lib.hid (HWP.out.grewD hg5); obtain ⟨e2, g2, hz1⟩ := HWP.out.after HB5.out; rw [HV.out] at hO5; have HP5 := Lib.hid (HWP.out.put2 (B := (B1 ++ P) ++ [byteAt n 3]) HB5.out (by rw [bcells_append, List.length_append, ← HBL.out]; exact hO5)); clear hO5 hg5)
          all_goals
            go_wp2_with fail
            go_roundg 3
            case measure => have := HG.out; omega
            case rel => exact ⟨3, P ++ [byteAt n 3], by first | rfl | (congr 1; omega) | go_num, by omega, rfl, by rw [List.append_assoc]; exact HP.out, _, _, _, by rw [← List.append_assoc]; exact HP5.out⟩
      · obtain rfl : j = 0 := by omega
        go_wp2_with fail
        go_ret
        refine .inl ⟨n, _, rfl, rfl, ?_⟩
        have e : P = be k n := by have := HP.out; rw [show be 0 n = [] from rfl, List.append_nil] at this; exact this
        rw [← e]
        exact ⟨_, _, _, HWP.out⟩
  · go_wp2_with fail
    exact ⟨rfl, .inr ⟨rfl, rfl, hB⟩⟩
end Go.Proofs.YtmofnkinclckoaaDoor

namespace Go.Proofs.YtmofnkinclckoaaDoor
open Go.RowKit Go.Lib Go.WideShapes

theorem ib_in : ∀ l : Bs, ((0 : UInt8) ∈ l → 0 ≤ Lib.indexByte l 0) ∧ ((0 : UInt8) ∉ l → Lib.indexByte l 0 = -1) := by
  intro l
  induction l with
  | nil => exact ⟨(fun h => by cases h), (fun _ => rfl)⟩
  | cons b l ih =>
    have e : Lib.indexByte (b :: l) 0 = if b == 0 then 0 else if Lib.indexByte l 0 == -1 then -1 else Lib.indexByte l 0 + 1 := rfl
    rw [e]
    by_cases hb : b = 0
    · subst hb
      exact ⟨(fun _ => Int.le_refl _), (fun h => absurd (List.mem_cons_self ..) h)⟩
    · have hb' : (b == 0) = false := by simpa using hb
      rw [hb', if_neg (by simp)]
      constructor
      · intro h
        have hl : (0 : UInt8) ∈ l := by
          rcases List.mem_cons.1 h with h | h
          · exact absurd h.symm hb
          · exact h
        have := ih.1 hl
        have hne : (Lib.indexByte l 0 == -1) = false := by simp; omega
        rw [hne, if_neg (by simp)]; omega
      · intro h
        rw [ih.2 (fun hl => h (List.mem_cons_of_mem _ hl))]; rfl

theorem index_zero (t : Bs) (w : World) : Calls Tryd.prog 63 #[.string ⟨t.toArray⟩, .int .u8 0] w fun e w' => ∃ i : Int, e = .returned (.int .i64 i) ∧ (((0 : UInt8) ∈ t ∧ 0 ≤ i) ∨ ((0 : UInt8) ∉ t ∧ i < 0)) ∧ w = w' := by
  refine (Tryd.strings_IndexByte ⟨t.toArray⟩ 0 w).mono ?_
  rintro e w' ⟨rfl, rfl⟩
  refine ⟨_, rfl, ?_, rfl⟩
  by_cases h : (0 : UInt8) ∈ t
  · exact .inl ⟨h, (ib_in t).1 h⟩
  · refine .inr ⟨h, ?_⟩
    have := (ib_in t).2 h
    show Lib.indexByte t 0 < 0
    omega

theorem text_size {s : WS} {t : Bs} {ts : List Bs} (h : s.T = t :: ts) : s.B.length + t.length + 19 ≤ room s := by
  unfold room
  rw [h, List.map_cons, List.sum_cons]
  omega

set_option maxRecDepth 100000 in
set_option maxHeartbeats 8000000 in
theorem text_any (w0 w : World) (s : WS) (hr : room s ≤ 900000) (h : IsW w0 w s) :
    Calls Tryd.prog 41 #[.pointer (some ⟨w0.heap.size, 0, none⟩)] w (WOut w0 (wText s)) := by
  have HN := Lib.hid (nexttext_any w0 w s h)
  obtain ⟨T, N, B⟩ := s
  clear h
  cases T with
  | nil =>
    rw [show wText ⟨[], N, B⟩ = none from rfl]
    go_enter Tryd.func41, Tryd.ntmps41
    go_wp2_with fail
    refine HN.out.mono ?_; rintro e w1 (⟨t, ts, hT, _⟩ | ⟨_, rfl, hB⟩)
    · cases hT
    · go_wp2_with fail
      exact ⟨rfl, .inr ⟨rfl, rfl, hB⟩⟩
  | cons t ts =>
    have hsz := text_size (s := ⟨t :: ts, N, B⟩) (t := t) (ts := ts) rfl
    have hsz : B.length + t.length + 19 ≤ room ⟨t :: ts, N, B⟩ := hsz
    have hBl : B.length ≤ 900000 := by omega
    have htl : t.length ≤ 900000 := by omega
    have hBT : B.length + t.length ≤ 900000 := by omega
    clear hsz hr
    by_cases h0 : (0 : UInt8) ∈ t
    · rw [show wText ⟨t :: ts, N, B⟩ = none by unfold wText; simp only; rw [if_pos h0]]
      have H0 := Lib.hid h0
      clear h0
      go_enter Tryd.func41, Tryd.ntmps41
      go_wp2_with fail
      refine HN.out.mono ?_; rintro e w1 (⟨t', ts', hT, rfl, hW⟩ | ⟨hT, _⟩)
      · obtain ⟨rfl, rfl⟩ := List.cons.inj hT
        obtain ⟨_, _, _, hW⟩ := hW
        have HB := Lib.hid hW.below
        clear hT hW HN
        go_wp2_with fail
        refine (index_zero t w1).mono ?_; rintro e w2 ⟨i, rfl, ⟨_, hi⟩ | ⟨h, _⟩, rfl⟩
        · have hd : decide (i < 0) = false := by simp; omega
          go_wp2_with fail
          refine (demand_no _).mono ?_; rintro e w3 ⟨rfl, rfl⟩
          go_wp2_with fail
          exact ⟨rfl, .inr ⟨rfl, rfl, HB.out⟩⟩
        · exact absurd H0.out h
      · cases hT
    · rw [show wText ⟨t :: ts, N, B⟩ = some ⟨ts, N, B ++ (t ++ [0])⟩ by unfold wText; simp only; rw [if_neg h0]]
      have H0 := Lib.hid h0
      clear h0
      go_enter Tryd.func41, Tryd.ntmps41
      go_wp2_with fail
      refine HN.out.mono ?_; rintro e w1 (⟨t', ts', hT, rfl, hW⟩ | ⟨hT, _⟩)
      · obtain ⟨rfl, rfl⟩ := List.cons.inj hT
        obtain ⟨tv, nv, bv, hW⟩ := hW
        have HW := Lib.hid hW
        clear hT hW HN
        go_wp2_with fail
        refine (index_zero t w1).mono ?_; rintro e w2 ⟨i, rfl, ⟨h, _⟩ | ⟨_, hi⟩, rfl⟩
        · exact absurd h H0.out
        · have hd : decide (i < 0) = true := by simp; omega
          go_wp2_with fail
          refine (demand_ok _).mono ?_; rintro e w3 ⟨rfl, rfl⟩
          obtain ⟨a, c, rfl⟩ := HW.out.room_blocks
          have c2 := HW.out.c2
          have f2 := HW.out.f2
          obtain ⟨a', c', w4, hrun, e2, g2, hz1, hP⟩ := put_text ⟨t.toArray⟩ (by show B.length ≤ _; omega) (by rw [bsize]; omega) HW.out
          have HP := Lib.hid hP
          have HRUN := Lib.hid hrun
          clear hP hrun hd
          go_wp2_with (at_builtin; refine wpList_append_eq rfl (.tmp 13) (.tmp 14) 57 9 rfl _ _ rfl rfl _ _ HRUN.out ?_)
          clear c2 f2
          go_wp2_with fail
          have hZ := zero_any w0 _ ⟨ts, N, B ++ t⟩ (by show (B ++ t).length ≤ _; rw [List.length_append]; omega) ⟨_, _, _, HP.out⟩
          refine hZ.mono ?_; rintro e w5 (⟨s', hs', rfl, hW5⟩ | ⟨hs', _⟩)
          · obtain rfl := Option.some.inj hs'
            go_wp2_with fail
            go_end0
            exact .inl ⟨_, rfl, rfl, by rw [← List.append_assoc]; exact hW5⟩
          · cases hs'
      · cases hT
end Go.Proofs.YtmofnkinclckoaaDoor

namespace Go.Proofs.YtmofnkinclckoaaDoor
open Go.RowKit Go.Lib Go.WideShapes

theorem room_B (s : WS) : s.B.length ≤ room s := by unfold room; omega

set_option maxRecDepth 100000 in
set_option maxHeartbeats 4000000 in
theorem short_any (w0 w : World) (s : WS) (hr : room s ≤ 900000) (h : IsW w0 w s) :
    Calls Tryd.prog 47 #[.pointer (some ⟨w0.heap.size, 0, none⟩)] w (WOut w0 (wShort s)) := by
  have HN := Lib.hid (number_anyM w0 w s (-32768) 32767 2 (by omega) (by omega) (by omega) (Nat.le_trans (room_B s) hr) h)
  clear h hr
  unfold wShort
  generalize wNumber (-32768) 32767 2 s = r at HN ⊢
  go_enter Tryd.func47, Tryd.ntmps47
  go_wp2_with fail
  refine HN.out.mono ?_; rintro e w1 (⟨n, s1, rfl, rfl, hW⟩ | ⟨rfl, rfl, hB⟩)
  · have HW := Lib.hid hW
    clear hW
    go_wp2_with fail
    go_end0
    exact .inl ⟨_, rfl, rfl, HW.out⟩
  · go_wp2_with fail
    exact ⟨rfl, .inr ⟨rfl, rfl, hB⟩⟩
set_option maxRecDepth 100000 in
set_option maxHeartbeats 4000000 in
theorem long_any (w0 w : World) (s : WS) (hr : room s ≤ 900000) (h : IsW w0 w s) :
    Calls Tryd.prog 43 #[.pointer (some ⟨w0.heap.size, 0, none⟩)] w (WOut w0 (wLong s)) := by
  have HN := Lib.hid (number_anyM w0 w s (-2147483648) 2147483647 4 (by omega) (by omega) (by omega) (Nat.le_trans (room_B s) hr) h)
  clear h hr
  unfold wLong
  generalize wNumber (-2147483648) 2147483647 4 s = r at HN ⊢
  go_enter Tryd.func43, Tryd.ntmps43
  go_wp2_with fail
  refine HN.out.mono ?_; rintro e w1 (⟨n, s1, rfl, rfl, hW⟩ | ⟨rfl, rfl, hB⟩)
  · have HW := Lib.hid hW
    clear hW
    go_wp2_with fail
    go_end0
    exact .inl ⟨_, rfl, rfl, HW.out⟩
  · go_wp2_with fail
    exact ⟨rfl, .inr ⟨rfl, rfl, hB⟩⟩

set_option maxRecDepth 100000 in
set_option maxHeartbeats 4000000 in
theorem name_any (w0 w : World) (s : WS) (hr : room s ≤ 800000) (h : IsW w0 w s) :
    Calls Tryd.prog 49 #[.pointer (some ⟨w0.heap.size, 0, none⟩)] w (WOut w0 (wName s)) := by
  have HN := Lib.hid (text_any w0 w s (by omega) h)
  clear h
  unfold wName
  generalize hx : wText s = r at HN ⊢
  have HX := Lib.hid hx
  clear hx
  go_enter Tryd.func49, Tryd.ntmps49
  go_wp2_with fail
  refine HN.out.mono ?_; rintro e w1 (⟨s1, rfl, rfl, hW⟩ | ⟨rfl, rfl, hB⟩)
  · have HW := Lib.hid hW
    have hs1 : s1.B.length ≤ 800000 := by have := room_text HX.out; have := room_B s1; omega
    clear hW HX HN
    obtain ⟨T, N, B⟩ := s1
    have hs1 : B.length ≤ 800000 := hs1
    go_wp2_with fail
    go_loopg [4] 18 (fun g i wr => ∃ j : Nat, i = .int .i64 j ∧ j ≤ 18 ∧ g = 18 - j ∧ IsW w0 wr ⟨T, N, B ++ List.replicate j 0⟩)
    case atStart => exact ⟨0, rfl, by omega, rfl, by rw [List.replicate_zero, List.append_nil]; exact HW.out⟩
    case round =>
      obtain ⟨j, rfl, hj, hg, hWj⟩ := hrel
      have HWJ := Lib.hid hWj; have HG := Lib.hid hg
      clear hWj hg
      by_cases hlt : j < 18
      · have hlt' : (j : Int) < 18 := by omega
        go_wp2_with fail
        refine (zero_any w0 wr ⟨T, N, B ++ List.replicate j 0⟩ (by show (B ++ List.replicate j 0).length ≤ _; rw [List.length_append, List.length_replicate]; omega) HWJ.out).mono ?_; rintro e w2 (⟨s', hs', rfl, hW2⟩ | ⟨hs', _⟩)
        · obtain rfl := Option.some.inj hs'
          have HW2 := Lib.hid (show IsW w0 w2 ⟨T, N, B ++ List.replicate (j + 1) 0⟩ by rw [List.replicate_succ', ← List.append_assoc]; exact hW2)
          clear hW2 hs'
          go_wp2_with fail
          go_roundg (18 - (j + 1))
          case measure => have := HG.out; omega
          case rel => exact ⟨j + 1, by go_num, by omega, rfl, HW2.out⟩
        · cases hs'
      · obtain rfl : j = 18 := by omega
        go_wp2_with fail
        go_end0
        exact .inl ⟨_, rfl, rfl, HWJ.out⟩
  · go_wp2_with fail
    exact ⟨rfl, .inr ⟨rfl, rfl, hB⟩⟩

set_option maxRecDepth 100000 in
set_option maxHeartbeats 8000000 in
theorem value_anyM (w0 w : World) (s : WS) (hr : room s ≤ 800000) (h : IsW w0 w s) :
    Calls Tryd.prog 48 #[.pointer (some ⟨w0.heap.size, 0, none⟩)] w (WOut w0 (wValue s)) := by
  have HN := Lib.hid (number_anyM w0 w s (-1) 10000 4 (by omega) (by omega) (by omega) (Nat.le_trans (room_B s) (by omega)) h)
  clear h
  obtain ⟨R, hR⟩ : ∃ R, R = wValue s := ⟨_, rfl⟩
  rw [← hR]
  unfold wValue at hR
  generalize hx : wNumber (-1) 10000 4 s = r at HN hR
  have HX := Lib.hid hx; have HR := Lib.hid hR
  clear hx hR
  go_enter Tryd.func48, Tryd.ntmps48
  go_wp2_with fail
  refine HN.out.mono ?_; rintro e w1 (⟨n, s1, rfl, rfl, hW⟩ | ⟨rfl, rfl, hB⟩)
  · have HW := Lib.hid hW
    have hs1 : room s1 ≤ 800000 := Nat.le_trans (room_number HX.out (by omega)).1 hr
    have HR := Lib.hid (show R = if n < 0 then some s1 else wRaw n s1 from HR.out)
    clear hW HX HN
    by_cases hn : n < 0
    · have HR := Lib.hid (show R = some s1 by rw [HR.out, if_pos hn])
      go_wp2_with fail
      go_end0
      exact .inl ⟨_, HR.out, rfl, HW.out⟩
    · have HR := Lib.hid (show R = wRaw n s1 by rw [HR.out, if_neg hn])
      have hn' : 0 ≤ n := by omega
      have HNT := Lib.hid (nexttext_any w0 w1 s1 HW.out)
      obtain ⟨T, N, B⟩ := s1
      clear hn HW
      cases T with
      | nil =>
        go_wp2_with fail
        refine HNT.out.mono ?_; rintro e w2 (⟨t, ts, hT, _⟩ | ⟨_, rfl, hB⟩)
        · cases hT
        · go_wp2_with fail
          exact ⟨rfl, .inr ⟨HR.out, rfl, hB⟩⟩
      | cons t ts =>
        have hsz := text_size (s := ⟨t :: ts, N, B⟩) (t := t) (ts := ts) rfl
        have hBT : B.length + t.length ≤ 800000 := by have hsz : B.length + t.length + 19 ≤ room ⟨t :: ts, N, B⟩ := hsz; omega
        have HR := Lib.hid (show R = if (t.length : Int) = n then some ⟨ts, N, B ++ t⟩ else none from HR.out)
        clear hsz hs1
        go_wp2_with fail
        refine HNT.out.mono ?_; rintro e w2 (⟨t', ts', hT, rfl, hW⟩ | ⟨hT, _⟩)
        · obtain ⟨rfl, rfl⟩ := List.cons.inj hT
          obtain ⟨tv, nv, bv, hW⟩ := hW
          have HW := Lib.hid hW
          clear hT hW HNT
          by_cases hl : (t.length : Int) = n
          · have HR := Lib.hid (show R = some ⟨ts, N, B ++ t⟩ by rw [HR.out, if_pos hl])
            subst hl
            obtain ⟨a, c, rfl⟩ := HW.out.room_blocks
            have c2 := HW.out.c2
            have f2 := HW.out.f2
            obtain ⟨a', c', w4, hrun, e2, g2, hz1, hP⟩ := put_text ⟨t.toArray⟩ (by show B.length ≤ _; omega) (by rw [bsize]; omega) HW.out
            have HP := Lib.hid hP
            have HRUN := Lib.hid hrun
            have hbs := bsize t
            have HBS := Lib.hid hbs
            clear hP hrun hbs
            go_wp2_with fail
            refine (demand_ok _).mono ?_; rintro e w3 ⟨rfl, rfl⟩
            go_wp2_with (at_builtin; refine wpList_append_eq rfl (.tmp 19) (.tmp 20) 57 9 rfl _ _ rfl rfl _ _ HRUN.out ?_)
            clear c2 f2
            go_wp2_with fail
            go_end0
            exact .inl ⟨_, HR.out, rfl, _, _, _, HP.out⟩
          · have HR := Lib.hid (show R = none by rw [HR.out, if_neg hl])
            have hl2 : (((t.length : Nat) : Int) == n) = false := by rw [beq_eq_false_iff_ne]; exact hl
            clear hl
            go_wp2_with fail
            refine (demand_no _).mono ?_; rintro e w3 ⟨rfl, rfl⟩
            go_wp2_with fail
            exact ⟨rfl, .inr ⟨HR.out, rfl, HW.out.below⟩⟩
        · cases hT
  · go_wp2_with fail
    exact ⟨rfl, .inr ⟨HR.out, rfl, hB⟩⟩
end Go.Proofs.YtmofnkinclckoaaDoor
