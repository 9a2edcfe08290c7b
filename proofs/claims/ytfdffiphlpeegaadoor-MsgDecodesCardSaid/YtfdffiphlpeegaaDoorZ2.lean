/- Contracts and mathematics: Base, MW. -/
import Derived.Test.YtfdffiphlpeegaaDoorZ1
import Derived.WalkKit
import Derived.LoopTactic
import Derived.BigQuiet
import Derived.Deep.QuietTactic
import Derived.Lib.Hide
import Derived.ChangeAlike
import Derived.RegionTactic
import Derived.WalkLawsBesides
import Derived.WalkSpells
import Derived.Laws.Cover1
import Derived.Laws.OwnMore
import Derived.Deep.DeepAppendWide
import Derived.Deep.RegionLaw
import Derived.Laws.IdiomCopy
import Derived.Lib.SliceRun
import Derived.Test.YtfdffiphlpeegaaDoorShelf
import Derived.Lib.AppendStr
import Derived.Lib.BufferWrite
import Derived.Shelf.Strings.Prefix
import Derived.Deep.RegionHeld3
import Derived.Deep.LoopGhost
namespace Go.Proofs.YtfdffiphlpeegaaDoor
open Go.RowKit Go.Lib Go.WideShapes

theorem below_drewN {B : Nat} {a w : World} (h : Below B a w) (q : Nat) : Below B a (w.drewN q) := ⟨h.os, h.tape, h.output, h.size, h.block⟩

theorem _root_.Go.RowKit.Below.step {B : Nat} {a w w' : World} (h : Below B a w) (h' : Below w.heap.size w w') (hB : B ≤ w.heap.size) : Below B a w' := h.trans (h'.mono hB)

theorem ownsRow_form {w : World} {base size n : Nat} {e : TypeId} {v : Value} {xs : List Value} (h : w.ownsRow base e size v n xs) : ∃ a c, v = .slice a n c := by
  rcases h.2 with ⟨rfl, rfl⟩ | ⟨g, cap, _, rfl, _⟩
  · exact ⟨none, 0, rfl⟩
  · exact ⟨_, cap, rfl⟩

theorem own_grown {w w' : World} {base size n B : Nat} {e : TypeId} {v : Value} {xs : List Value} (h : w.ownsRow base e size v n xs) (hb : Below B w w') (hB : w.heap.size ≤ B) : w'.ownsRow base e size v n xs :=
  h.kept (row := none) ⟨hb.os, hb.tape, hb.output, hb.size, fun k hk _ => hb.block k (by omega)⟩ (by cases v.ownBlock <;> simp)

theorem step_append_own {P : Program} {w : World} {ops : Array Oper} {o : Oper} {a : Act} {K : Act → World → Prop} {Q : Exit → Act → World → Prop} {E : Prop} (hg : o.guard = none) (s x : Operand) (t : TypeId)
    (ho : o.op = .call { callee := .builtin .append, args := #[s, x], argTypes := #[t, t] })
    (base : Nat) (e : TypeId) (i : TypeInfo) (z : Value) (size bytes : Nat) (ht : P.underlying t = some (.slice e)) (hi : P.info? e = some i) (hz : i.zero = some z)
    (hsize : i.size = size) (hby : i.bytes = bytes) (hzs : z.cells.size = size) (hsz : 0 < size)
    (v : Value) (n : Nat) (xs : List Value) (hs : a.eval s = v) (hown : w.ownsRow base e size v n xs)
    (ad : Addr) (m c : Nat) (news : List Value) (hx : a.eval x = .slice (some ad) m c) (hl : news.length = m * size) (hnews : ∀ j u, news[j]? = some u → w.cell? (ad.add j) = some u) (h1 : ∀ u ∈ news, u.oneCell' = true)
    (h63 : n + m ≤ maxLen) (hbytes : ((n + m) + (n + m) / 4 + 192) * bytes ≤ 281474976710656) (hbase : base ≤ w.heap.size)
    (h : ∀ v' w', w'.ownsRow base e size v' (n + m) (xs ++ news) → w.grownBy w' v.ownBlock → K (a.put o.dst v') w') : if Region.wanted o (yielded ops a.tmps) = true then Oper.wp P o a w K Q else E := by
  have hw : Region.wanted o (yielded ops a.tmps) = true := by simp [Region.wanted, hg]
  rw [if_pos hw]
  exact wp_append_own_wide w s x t ho base e i z size bytes ht hi hz hsize hby hzs hsz v n xs hs hown ad m c news hx hl hnews h1 h63 hbytes hbase (fun v' w' h2 h3 _ => h v' w' h2 h3)

/-- What is below an own row stays when it grows. -/
theorem below_grown {w w1 w2 : World} {B : Nat} {row : Option Nat} (h : Below B w w1) (hB : B ≤ w1.heap.size) (hg : w1.grownBy w2 row) (hr : ∀ k, row = some k → B ≤ k) : Below B w w2 :=
  h.trans ⟨hg.os, hg.tape, hg.output, hg.size, fun k hk => hg.block k (by omega) (fun e => by have := hr k e.symm; omega)⟩

def setL (xs : List Value) : Nat → List Value → List Value
  | _, [] => xs
  | o, v :: r => setL (xs.set o v) (o + 1) r

theorem setL_length (vs : List Value) : ∀ (xs : List Value) (o : Nat), (setL xs o vs).length = xs.length := by
  induction vs with
  | nil => intros; rfl
  | cons v r ih => intro xs o; rw [setL, ih, List.length_set]

theorem setL_eq (vs : List Value) : ∀ (xs : List Value) (o : Nat), o + vs.length ≤ xs.length → setL xs o vs = xs.take o ++ (vs ++ xs.drop (o + vs.length)) := by
  induction vs with
  | nil => intro xs o _; simp [setL]
  | cons v r ih =>
    intro xs o h
    rw [List.length_cons] at h
    rw [setL, ih _ _ (by rw [List.length_set]; omega), List.length_cons, show o + (r.length + 1) = o + 1 + r.length by omega]
    rw [List.take_set, List.drop_set, if_pos (by omega)]
    rw [List.take_succ_eq_append_getElem (by omega), List.set_append_right _ _ (by rw [List.length_take]; omega)]
    simp [List.length_take, Nat.min_eq_left (show o ≤ xs.length by omega)]

theorem setL_out (vs : List Value) : ∀ (xs : List Value) (o : Nat), xs.length ≤ o → setL xs o vs = xs := by
  induction vs with
  | nil => intros; rfl
  | cons v r ih => intro xs o h; rw [setL, List.set_eq_of_length_le h, ih _ _ (by omega)]

section
variable {w : World} {base size n cap g : Nat} {e : TypeId} {xs : List Value}

theorem own_stored (h : w.ownsRow base e size (.slice (some ⟨g, 0, none⟩) n cap) n xs) (vs : List Value) : ∀ (o : Nat), (w.setCells g o vs).ownsRow base e size (.slice (some ⟨g, 0, none⟩) n cap) n (setL xs o vs) ∧ w.grownBy (w.setCells g o vs) (some g) := by
  induction vs generalizing w xs with
  | nil => intro o; exact ⟨h, ⟨rfl, rfl, rfl, Nat.le_refl _, fun _ _ _ => rfl⟩⟩
  | cons v r ih =>
    intro o
    obtain ⟨h1, h2⟩ := h.stored o v
    obtain ⟨h3, h4⟩ := ih h1 (o + 1)
    exact ⟨h3, ⟨h4.os.trans h2.os, h4.tape.trans h2.tape, h4.output.trans h2.output, Nat.le_trans h2.size h4.size, fun k hk hne => (h4.block k (Nat.lt_of_lt_of_le hk h2.size) hne).trans (h2.block k hk hne)⟩⟩

theorem own_cut (h : w.ownsRow base e size (.slice (some ⟨g, 0, none⟩) n cap) n xs) {m : Nat} (hm : m ≤ n) : w.ownsRow base e size (.slice (some ⟨g, 0, none⟩) m cap) m (xs.take (m * size)) := by
  have hms : m * size ≤ n * size := Nat.mul_le_mul_right _ hm
  refine ⟨by rw [List.length_take, h.1]; omega, ?_⟩
  rcases h.2 with ⟨hv, _⟩ | ⟨g', cap', cur, hv, hb, hg, hn, hc, hcs, ht⟩
  · cases hv
  · simp only [Value.slice.injEq, Option.some.injEq, Addr.mk.injEq, and_true, true_and] at hv
    obtain ⟨rfl, rfl⟩ := hv
    refine .inr ⟨_, _, cur, rfl, hb, hg, by omega, hc, hcs, ?_⟩
    rw [← ht, List.take_take, Nat.min_eq_left hms]

theorem own_room (h : w.ownsRow base e size (.slice (some ⟨g, 0, none⟩) n cap) n xs) : n ≤ cap ∧ cap ≤ maxLen ∧ base ≤ g ∧ g < w.heap.size ∧ w.shape? g = some (e, cap * size) ∧ (∀ j, w.frozen? ⟨g, j, none⟩ = false) ∧ ∀ j, j < cap * size → (w.cell? ⟨g, j, none⟩).isSome = true := by
  rcases h.2 with ⟨hv, _⟩ | ⟨g', cap', cur, hv, hb, hg, hn, hc, hcs, ht⟩
  · cases hv
  · simp only [Value.slice.injEq, Option.some.injEq, Addr.mk.injEq, and_true, true_and] at hv
    obtain ⟨rfl, rfl⟩ := hv
    refine ⟨hn, hc, hb, (Array.getElem?_eq_some_iff.1 hg).1, by simp [World.shape?, hg, hcs], fun j => by simp [World.frozen?, hg], fun j hj => ?_⟩
    simp [World.cell?, hg, Array.getElem?_eq_getElem (show j < cur.size by omega)]
end

theorem run_clear_cells {P : Program} (w : World) (t e ty : TypeId) (z : Value) (ht : P.underlying t = some (.slice e)) (hv : ∀ w, (zeroValue e).run P w = .ok z w) (b o n c : Nat) (hn : 0 < n) (zs : List Value) (hzc : (Builtin.zeroCells z.cells n).toList = zs) (h1 : ∀ v ∈ zs, v.oneCell' = true)
    (hc : ∀ j, j < zs.length → (w.cell? ⟨b, o + j, none⟩).isSome = true) (hf : ∀ j, j < zs.length → w.frozen? ⟨b, o + j, none⟩ = false) :
    (Builtin.clear_ #[t] ty #[.slice (some ⟨b, o, none⟩) n c]).run P w = .ok (.tuple #[]) (w.setCells b o zs) := by
  have hst := run_storeCells_cells (P := P) b o zs 0 w (by simpa using hc) (by simpa using hf) h1
  simp only [Nat.add_zero] at hst
  obtain ⟨m, rfl⟩ : ∃ m, n = m + 1 := ⟨n - 1, by omega⟩
  simp [Builtin.clear_, run_underlying ht, hv, hzc, hst]
section
variable {P : Program} (w : World)

/-- append to a row of the call's own: what it leaves lies where the row lay, or behind all. -/
theorem run_append_at (base : Nat) (t ty e : TypeId) (i : TypeInfo) (z : Value) (size bytes : Nat) (ht : P.underlying t = some (.slice e)) (hi : P.info? e = some i) (hz : i.zero = some z)
    (hsize : i.size = size) (hby : i.bytes = bytes) (hzs : z.cells.size = size) (hsz : 0 < size)
    (v : Value) (n : Nat) (xs : List Value) (hown : w.ownsRow base e size v n xs)
    (a : Addr) (m c : Nat) (news : List Value) (hl : news.length = m * size) (hnews : ∀ j u, news[j]? = some u → w.cell? (a.add j) = some u) (h1 : ∀ u ∈ news, u.oneCell' = true)
    (h63 : n + m ≤ maxLen) (hbytes : ((n + m) + (n + m) / 4 + 192) * bytes ≤ 281474976710656) (hbase : base ≤ w.heap.size) :
    ∃ v' w', (Builtin.append_ #[t, t] ty #[v, .slice (some a) m c]).run P w = .ok v' w' ∧ w'.ownsRow base e size v' (n + m) (xs ++ news) ∧ w.grownBy w' v.ownBlock ∧
      (∀ k, v'.ownBlock = some k → v.ownBlock = some k ∨ w.heap.size ≤ k) := by
  obtain ⟨v', w', hr, h2, h3, h4⟩ := run_append_own_wide (P := P) w base t ty e i z size bytes ht hi hz hsize hby hzs hsz v n xs hown a m c news hl hnews h1 h63 hbytes hbase
  have hsmall : n + m ≤ 9223372036854775807 := by simp only [maxLen] at h63; omega
  refine ⟨v', w', hr, h2, h3, fun k hk => ?_⟩
  subst hsize
  subst hby
  rcases hown.2 with ⟨rfl, rfl⟩ | ⟨g, cap, cur, rfl, hbg, hg, hnc, hcm, hcs, htake⟩
  · by_cases hm : m = 0
    · have := h4.2 ⟨rfl, hm⟩
      rw [this] at hk; cases hk
    · have hr2 := run_append_nil (P := P) w t ty e i z ht hi hz a m c news hl hnews (by omega) (by omega) (by have hb := hbytes; simp only [Nat.zero_add] at hb; exact Nat.le_trans (Nat.mul_le_mul_right _ (by omega)) hb)
      rw [hr2] at hr
      injection hr with e1 _
      rw [← e1] at hk; simp [Value.ownBlock] at hk; right; omega
  · by_cases hroom : n + m ≤ cap
    · have hfit : n * i.size + news.length ≤ cur.size := by rw [hl, hcs, ← Nat.add_mul]; exact Nat.mul_le_mul_right _ hroom
      have hr2 := run_append_room (P := P) w t ty e i ht hi g n cap cur hg a m c news hl hnews h1 hroom hfit
      rw [hr2] at hr
      injection hr with e1 _
      rw [← e1] at hk; left; exact hk
    · have holds : ∀ j u, xs[j]? = some u → w.cell? ((⟨g, 0, none⟩ : Addr).add j) = some u := hown.cells (g := g) rfl
      have hr2 := run_append_grow (P := P) w t ty e i z ht hi hz ⟨g, 0, none⟩ n cap xs hown.1 holds a m c news hl hnews (by omega) (by omega) (growslice_fits_wide (by omega) hbytes)
      rw [hr2] at hr
      injection hr with e1 _
      rw [← e1] at hk; simp [Value.ownBlock] at hk; right; omega

theorem wp_append_at {o : Oper} {a : Act} {K : Act → World → Prop} {Q : Exit → Act → World → Prop} (s x : Operand) (t : TypeId)
    (ho : o.op = .call { callee := .builtin .append, args := #[s, x], argTypes := #[t, t] })
    (base : Nat) (e : TypeId) (i : TypeInfo) (z : Value) (size bytes : Nat) (ht : P.underlying t = some (.slice e)) (hi : P.info? e = some i) (hz : i.zero = some z)
    (hsize : i.size = size) (hby : i.bytes = bytes) (hzs : z.cells.size = size) (hsz : 0 < size)
    (v : Value) (n : Nat) (xs : List Value) (hs : a.eval s = v) (hown : w.ownsRow base e size v n xs)
    (ad : Addr) (m c : Nat) (news : List Value) (hx : a.eval x = .slice (some ad) m c) (hl : news.length = m * size) (hnews : ∀ j u, news[j]? = some u → w.cell? (ad.add j) = some u) (h1 : ∀ u ∈ news, u.oneCell' = true)
    (h63 : n + m ≤ maxLen) (hbytes : ((n + m) + (n + m) / 4 + 192) * bytes ≤ 281474976710656) (hbase : base ≤ w.heap.size)
    (h : ∀ v' w', w'.ownsRow base e size v' (n + m) (xs ++ news) → w.grownBy w' v.ownBlock → (∀ k, v'.ownBlock = some k → v.ownBlock = some k ∨ w.heap.size ≤ k) → K (a.put o.dst v') w') : o.wp P a w K Q := by
  obtain ⟨v', w', hr, h2, h3, h4⟩ := run_append_at (P := P) w base t o.type e i z size bytes ht hi hz hsize hby hzs hsz v n xs hown ad m c news hl hnews h1 h63 hbytes hbase
  unfold Oper.wp execOp
  simp only [ho, resolve, invoke, builtin, Sem.run_bind, Sem.run_pure, Result.andThen_ok, List.map_toArray, List.map_cons, List.map_nil, hs, hx, hr]
  exact h v' w' h2 h3 h4

theorem wpList_append_at {ops : Array Oper} {rest : List Oper} {o : Oper} {a : Act} {Q : Exit → Act → World → Prop} (hgd : o.guard = none) (s x : Operand) (t : TypeId)
    (ho : o.op = .call { callee := .builtin .append, args := #[s, x], argTypes := #[t, t] })
    (base : Nat) (e : TypeId) (i : TypeInfo) (z : Value) (size bytes : Nat) (ht : P.underlying t = some (.slice e)) (hi : P.info? e = some i) (hz : i.zero = some z)
    (hsize : i.size = size) (hby : i.bytes = bytes) (hzs : z.cells.size = size) (hsz : 0 < size)
    (v : Value) (n : Nat) (xs : List Value) (hs : a.eval s = v) (hown : w.ownsRow base e size v n xs)
    (ad : Addr) (m c : Nat) (news : List Value) (hx : a.eval x = .slice (some ad) m c) (hl : news.length = m * size) (hnews : ∀ j u, news[j]? = some u → w.cell? (ad.add j) = some u) (h1 : ∀ u ∈ news, u.oneCell' = true)
    (h63 : n + m ≤ maxLen) (hbytes : ((n + m) + (n + m) / 4 + 192) * bytes ≤ 281474976710656) (hbase : base ≤ w.heap.size)
    (h : ∀ v' w', w'.ownsRow base e size v' (n + m) (xs ++ news) → w.grownBy w' v.ownBlock → (∀ k, v'.ownBlock = some k → v.ownBlock = some k ∨ w.heap.size ≤ k) → wpList P ops Q rest (a.put o.dst v') w') : wpList P ops Q (o :: rest) a w :=
  wpList_plain hgd fun _ hK => wp_append_at w s x t ho base e i z size bytes ht hi hz hsize hby hzs hsz v n xs hs hown ad m c news hx hl hnews h1 h63 hbytes hbase fun v' w' h2 h3 h4 => hK _ _ (h v' w' h2 h3 h4)
end
end Go.Proofs.YtfdffiphlpeegaaDoor

namespace Go.Proofs.YtfdffiphlpeegaaDoor
open Go.RowKit Go.Lib Go.WideShapes


/-- A row of texts that lies in w0, of which v is a slice. -/
def TextsIn (w0 : World) (v : Value) (T : List Bs) : Prop := ∃ a n c, v = .slice a n c ∧ T.length = n ∧ n ≤ c ∧ c ≤ 9223372036854775807 ∧
  (T = [] ∨ ∃ g off, a = some ⟨g, off, none⟩ ∧ g < w0.heap.size ∧ ∀ (i : Nat) (t : Bs), T[i]? = some t → w0.cell? ⟨g, off + i, none⟩ = some (.string ⟨t.toArray⟩))
/-- A row of numbers. -/
def NumsIn (w0 : World) (v : Value) (N : List Int) : Prop := ∃ a n c, v = .slice a n c ∧ N.length = n ∧ n ≤ c ∧ c ≤ 9223372036854775807 ∧
  (N = [] ∨ ∃ g off, a = some ⟨g, off, none⟩ ∧ g < w0.heap.size ∧ ∀ (i : Nat) (t : Int), N[i]? = some t → w0.cell? ⟨g, off + i, none⟩ = some (.int .i64 t))
def bcells (B : Bs) : List Value := B.map fun b => .int .u8 (b.toNat : Nat)
theorem bcells_length (B : Bs) : (bcells B).length = B.length := by simp [bcells]
theorem bcells_append (a b : Bs) : bcells (a ++ b) = bcells a ++ bcells b := by simp [bcells]

/-- A writer that was made behind w0. -/
structure WAt (w0 w : World) (s : WS) (tv nv bv : Value) : Prop where
  below : Below w0.heap.size w0 w
  lt : w0.heap.size < w.heap.size
  c0 : w.cell? ⟨w0.heap.size, 0, none⟩ = some tv
  c1 : w.cell? ⟨w0.heap.size, 1, none⟩ = some nv
  c2 : w.cell? ⟨w0.heap.size, 2, none⟩ = some bv
  f0 : w.frozen? ⟨w0.heap.size, 0, none⟩ = false
  f1 : w.frozen? ⟨w0.heap.size, 1, none⟩ = false
  f2 : w.frozen? ⟨w0.heap.size, 2, none⟩ = false
  texts : TextsIn w0 tv s.T
  nums : NumsIn w0 nv s.N
  body : w.ownsRow (w0.heap.size + 1) 5 1 bv s.B.length (bcells s.B)
def IsW (w0 w : World) (s : WS) : Prop := ∃ tv nv bv, WAt w0 w s tv nv bv

def errV : Value := .iface 29 (.int .i64 2)
def Lost (w0 : World) (e : Ending) (w' : World) : Prop := e = .panicked [{ v := errV, recovered := false }] ∧ Below w0.heap.size w0 w'
/-- What an operation of a writer leaves. -/
def WOut (w0 : World) (r : Option WS) (e : Ending) (w' : World) : Prop := (∃ s', r = some s' ∧ e = .returned (.tuple #[]) ∧ IsW w0 w' s') ∨ (r = none ∧ Lost w0 e w')
def WOutN (w0 : World) (r : Option (Int × WS)) (e : Ending) (w' : World) : Prop := (∃ n s', r = some (n, s') ∧ e = .returned (.int .i64 n) ∧ IsW w0 w' s') ∨ (r = none ∧ Lost w0 e w')

theorem demand_ok (w : World) : Calls Tryd.prog 23 #[.bool true] w fun e w' => e = .returned (.tuple #[]) ∧ w = w' := by
  go_enter Tryd.func23, Tryd.ntmps23
  go_wp2
  go_end0
  exact ⟨rfl, rfl⟩
theorem demand_no (w : World) : Calls Tryd.prog 23 #[.bool false] w fun e w' => e = .panicked [{ v := errV, recovered := false }] ∧ w = w' := by
  unfold errV
  go_enter Tryd.func23, Tryd.ntmps23
  go_wp2
  exact ⟨rfl, rfl, rfl⟩

theorem WAt.room_blocks {w0 w : World} {s : WS} {tv nv bv : Value} (h : WAt w0 w s tv nv bv) : ∃ a c, bv = .slice a s.B.length c := ownsRow_form h.body
theorem own_other {w : World} {p i n : Nat} {e : TypeId} {v x : Value} {xs : List Value} (h : w.ownsRow (p + 1) e 1 v n xs) : (w.setCell ⟨p, i, none⟩ x).ownsRow (p + 1) e 1 v n xs := by
  refine h.kept (row := some p) ?_ ?_
  · exact Lib.grownBy_setCell w p i x
  · rcases h.2 with ⟨hv, _⟩ | ⟨g, c, cur, hv, hb, _⟩
    · left; rw [hv]; rfl
    · right
      rw [hv]
      intro e
      have : g = p := Option.some.inj e
      omega
/-- A cell of the writer's own written. -/
theorem WAt.put0 {w0 w : World} {s : WS} {tv nv bv : Value} (h : WAt w0 w s tv nv bv) {T : List Bs} {tv' : Value} (hT : TextsIn w0 tv' T) : WAt w0 (w.setCell ⟨w0.heap.size, 0, none⟩ tv') { s with T := T } tv' nv bv := by
  have n1 : (⟨w0.heap.size, 0, none⟩ : Addr) ≠ ⟨w0.heap.size, 1, none⟩ := by intro e; injection e with _ e; cases e
  have n2 : (⟨w0.heap.size, 0, none⟩ : Addr) ≠ ⟨w0.heap.size, 2, none⟩ := by intro e; injection e with _ e; cases e
  exact ⟨h.below.setCell (Nat.le_refl _) _, by rw [World.size_setCell]; exact h.lt, World.cell?_setCell_same _ _ _ h.c0, (World.cell?_setCell_other _ _ _ _ n1).trans h.c1, (World.cell?_setCell_other _ _ _ _ n2).trans h.c2, by rw [World.frozen?_setCell]; exact h.f0, by rw [World.frozen?_setCell]; exact h.f1, by rw [World.frozen?_setCell]; exact h.f2, hT, h.nums, own_other h.body⟩
theorem WAt.put1 {w0 w : World} {s : WS} {tv nv bv : Value} (h : WAt w0 w s tv nv bv) {N : List Int} {nv' : Value} (hN : NumsIn w0 nv' N) : WAt w0 (w.setCell ⟨w0.heap.size, 1, none⟩ nv') { s with N := N } tv nv' bv := by
  have n0 : (⟨w0.heap.size, 1, none⟩ : Addr) ≠ ⟨w0.heap.size, 0, none⟩ := by intro e; injection e with _ e; cases e
  have n2 : (⟨w0.heap.size, 1, none⟩ : Addr) ≠ ⟨w0.heap.size, 2, none⟩ := by intro e; injection e with _ e; cases e
  exact ⟨h.below.setCell (Nat.le_refl _) _, by rw [World.size_setCell]; exact h.lt, (World.cell?_setCell_other _ _ _ _ n0).trans h.c0, World.cell?_setCell_same _ _ _ h.c1, (World.cell?_setCell_other _ _ _ _ n2).trans h.c2, by rw [World.frozen?_setCell]; exact h.f0, by rw [World.frozen?_setCell]; exact h.f1, by rw [World.frozen?_setCell]; exact h.f2, h.texts, hN, own_other h.body⟩
/-- The body, another row of the writer's own: the world grew, and the cell was written. -/
theorem WAt.put2 {w0 w w1 : World} {s : WS} {tv nv bv bv' : Value} {B : Bs} (h : WAt w0 w s tv nv bv) (hB : Below (w0.heap.size + 1) w w1) (hb : w1.ownsRow (w0.heap.size + 1) 5 1 bv' B.length (bcells B)) : WAt w0 (w1.setCell ⟨w0.heap.size, 2, none⟩ bv') { s with B := B } tv nv bv' := by
  have n0 : (⟨w0.heap.size, 2, none⟩ : Addr) ≠ ⟨w0.heap.size, 0, none⟩ := by intro e; injection e with _ e; cases e
  have n1 : (⟨w0.heap.size, 2, none⟩ : Addr) ≠ ⟨w0.heap.size, 1, none⟩ := by intro e; injection e with _ e; cases e
  have e0 := hB.cell (p := ⟨w0.heap.size, 0, none⟩) (Nat.lt_succ_self _)
  have e1 := hB.cell (p := ⟨w0.heap.size, 1, none⟩) (Nat.lt_succ_self _)
  have e2 := hB.cell (p := ⟨w0.heap.size, 2, none⟩) (Nat.lt_succ_self _)
  have g0 := hB.frozen (p := ⟨w0.heap.size, 0, none⟩) (Nat.lt_succ_self _)
  have g1 := hB.frozen (p := ⟨w0.heap.size, 1, none⟩) (Nat.lt_succ_self _)
  have g2 := hB.frozen (p := ⟨w0.heap.size, 2, none⟩) (Nat.lt_succ_self _)
  exact ⟨(h.below.trans (hB.mono (Nat.le_succ _))).setCell (Nat.le_refl _) _, by rw [World.size_setCell]; exact Nat.lt_of_lt_of_le h.lt hB.size, (World.cell?_setCell_other _ _ _ _ n0).trans (e0.trans h.c0), (World.cell?_setCell_other _ _ _ _ n1).trans (e1.trans h.c1), World.cell?_setCell_same _ _ _ (e2.trans h.c2), by rw [World.frozen?_setCell]; exact g0.trans h.f0, by rw [World.frozen?_setCell]; exact g1.trans h.f1, by rw [World.frozen?_setCell]; exact g2.trans h.f2, h.texts, h.nums, own_other hb⟩

theorem WAt.grew {w0 w w1 : World} {s : WS} {tv nv bv : Value} (h : WAt w0 w s tv nv bv) (hg : w.grownBy w1 bv.ownBlock) : Below (w0.heap.size + 1) w w1 := below_grown (Below.refl _ w) h.lt hg (fun q hq => (h.body.lt q hq).1)
theorem WAt.grewA {w0 w w1 : World} {s : WS} {tv nv bv : Value} {o : Obj} (h : WAt w0 w s tv nv bv) (hg : (w.alloc o).grownBy w1 bv.ownBlock) : Below (w0.heap.size + 1) w w1 := below_grown ((Below.refl (w0.heap.size + 1) w).alloc h.lt _) (by rw [World.size_alloc]; exact Nat.le_succ_of_le h.lt) hg (fun q hq => (h.body.lt q hq).1)
theorem WAt.after {w0 w w1 : World} {s : WS} {tv nv bv : Value} (h : WAt w0 w s tv nv bv) (hB : Below (w0.heap.size + 1) w w1) : w1.cell? ⟨w0.heap.size, 2, none⟩ = some bv ∧ w1.frozen? ⟨w0.heap.size, 2, none⟩ = false ∧ w0.heap.size < w1.heap.size :=
  ⟨(hB.cell (p := ⟨w0.heap.size, 2, none⟩) (Nat.lt_succ_self _)).trans h.c2, (hB.frozen (p := ⟨w0.heap.size, 2, none⟩) (Nat.lt_succ_self _)).trans h.f2, Nat.lt_of_lt_of_le h.lt hB.size⟩
/-- The row behind its first text. -/
theorem TextsIn.tail {w0 : World} {a : Option Addr} {n c : Nat} {t : Bs} {ts : List Bs} (h : TextsIn w0 (.slice a n c) (t :: ts)) : ∃ g off, a = some ⟨g, off, none⟩ ∧ g < w0.heap.size ∧ w0.cell? ⟨g, off, none⟩ = some (.string ⟨t.toArray⟩) ∧ 1 ≤ n ∧ n ≤ c ∧ c ≤ 9223372036854775807 ∧ ts.length = n - 1 ∧ (1 < c → TextsIn w0 (.slice (some ⟨g, off + 1, none⟩) (n - 1) (c - 1)) ts) ∧ (c = 1 → ∀ a', TextsIn w0 (.slice a' 0 0) ts) := by
  obtain ⟨a', n', c', hv, hl, hn, hc, hr⟩ := h
  simp only [Value.slice.injEq] at hv
  obtain ⟨rfl, rfl, rfl⟩ := hv
  rcases hr with hr | ⟨g, off, rfl, hg, hcell⟩
  · cases hr
  · rw [List.length_cons] at hl
    refine ⟨g, off, rfl, hg, hcell 0 t rfl, by omega, hn, hc, by omega, fun _ => ⟨_, _, _, rfl, by omega, by omega, by omega, .inr ⟨g, off + 1, rfl, hg, fun i x hx => ?_⟩⟩, fun h1 a' => ⟨_, _, _, rfl, by omega, Nat.le_refl _, by omega, .inl (List.length_eq_zero_iff.1 (by omega))⟩⟩
    have := hcell (i + 1) x hx
    rwa [show off + (i + 1) = off + 1 + i by omega] at this
theorem NumsIn.tail {w0 : World} {a : Option Addr} {n c : Nat} {t : Int} {ts : List Int} (h : NumsIn w0 (.slice a n c) (t :: ts)) : ∃ g off, a = some ⟨g, off, none⟩ ∧ g < w0.heap.size ∧ w0.cell? ⟨g, off, none⟩ = some (.int .i64 t) ∧ 1 ≤ n ∧ n ≤ c ∧ c ≤ 9223372036854775807 ∧ ts.length = n - 1 ∧ (1 < c → NumsIn w0 (.slice (some ⟨g, off + 1, none⟩) (n - 1) (c - 1)) ts) ∧ (c = 1 → ∀ a', NumsIn w0 (.slice a' 0 0) ts) := by
  obtain ⟨a', n', c', hv, hl, hn, hc, hr⟩ := h
  simp only [Value.slice.injEq] at hv
  obtain ⟨rfl, rfl, rfl⟩ := hv
  rcases hr with hr | ⟨g, off, rfl, hg, hcell⟩
  · cases hr
  · rw [List.length_cons] at hl
    refine ⟨g, off, rfl, hg, hcell 0 t rfl, by omega, hn, hc, by omega, fun _ => ⟨_, _, _, rfl, by omega, by omega, by omega, .inr ⟨g, off + 1, rfl, hg, fun i x hx => ?_⟩⟩, fun h1 a' => ⟨_, _, _, rfl, by omega, Nat.le_refl _, by omega, .inl (List.length_eq_zero_iff.1 (by omega))⟩⟩
    have := hcell (i + 1) x hx
    rwa [show off + (i + 1) = off + 1 + i by omega] at this

/-- What taking a text, or a number, leaves. -/
def NextT (w0 : World) (s : WS) (e : Ending) (w' : World) : Prop := (∃ t ts, s.T = t :: ts ∧ e = .returned (.string ⟨t.toArray⟩) ∧ IsW w0 w' { s with T := ts }) ∨ (s.T = [] ∧ Lost w0 e w')

set_option maxRecDepth 100000 in
set_option maxHeartbeats 4000000 in
theorem nexttext_any (w0 w : World) (s : WS) (h : IsW w0 w s) :
    Calls Tryd.prog 67 #[.pointer (some ⟨w0.heap.size, 0, none⟩)] w (NextT w0 s) := by
  obtain ⟨tv, nv, bv, hW⟩ := h
  obtain ⟨a, n, c, rfl, hl, hn, hc, _⟩ := hW.texts
  have c0 := hW.c0
  have f0 := hW.f0
  have HW := Lib.hid hW
  obtain ⟨T, N, B⟩ := s
  clear hW
  cases T with
  | nil =>
    obtain rfl : 0 = n := hl
    go_enter Tryd.func67, Tryd.ntmps67
    go_wp2_with fail
    refine (demand_no _).mono ?_; rintro e w1 ⟨rfl, rfl⟩
    go_wp2_with fail
    exact ⟨rfl, .inr ⟨rfl, rfl, HW.out.below⟩⟩
  | cons t ts =>
    obtain ⟨g, off, rfl, hg, hcell, h1, _, _, hts, hA, hB⟩ := HW.out.texts.tail
    have d0 := (HW.out.below.cell (p := ⟨g, off, none⟩) hg).trans hcell
    have h1' : (1 : Int) ≤ n := by omega
    have hn' : (n : Int) ≤ c := by omega
    have h0' : 0 < n := by omega
    have HA := Lib.hid hA; have HB := Lib.hid hB
    clear hl hA hB hcell
    by_cases hc1 : c = 1
    · subst hc1
      obtain rfl : n = 1 := by omega
      have HP := Lib.hid (HW.out.put0 (HB.out rfl (some ⟨g, off, none⟩)))
      go_enter Tryd.func67, Tryd.ntmps67
      go_wp2_with fail
      refine (demand_ok _).mono ?_; rintro e w1 ⟨rfl, rfl⟩
      go_wp2_with fail
      go_ret
      exact .inl ⟨t, ts, rfl, rfl, _, _, _, HP.out⟩
    · have hc2 : (2 : Int) ≤ c := by omega
      have HP := Lib.hid (HW.out.put0 (HA.out (by omega)))
      go_enter Tryd.func67, Tryd.ntmps67
      go_wp2_with fail
      refine (demand_ok _).mono ?_; rintro e w1 ⟨rfl, rfl⟩
      go_wp2_with fail
      go_ret
      exact .inl ⟨t, ts, rfl, rfl, _, _, _, HP.out⟩

set_option maxRecDepth 100000 in
set_option maxHeartbeats 4000000 in
theorem nextnum_any (w0 w : World) (s : WS) (l m : Int) (h : IsW w0 w s) :
    Calls Tryd.prog 69 #[.pointer (some ⟨w0.heap.size, 0, none⟩), .int .i64 l, .int .i64 m] w (WOutN w0 (wNum l m s)) := by
  obtain ⟨tv, nv, bv, hW⟩ := h
  obtain ⟨a, n, c, rfl, hl, hn, hc, _⟩ := hW.nums
  have c1 := hW.c1
  have f1 := hW.f1
  have HW := Lib.hid hW
  obtain ⟨T, N, B⟩ := s
  clear hW
  cases N with
  | nil =>
    obtain rfl : 0 = n := hl
    rw [show wNum l m ⟨T, [], B⟩ = none from rfl]
    go_enter Tryd.func69, Tryd.ntmps69
    go_wp2_with fail
    refine (demand_no _).mono ?_; rintro e w1 ⟨rfl, rfl⟩
    go_wp2_with fail
    exact ⟨rfl, .inr ⟨rfl, rfl, HW.out.below⟩⟩
  | cons t ts =>
    obtain ⟨g, off, rfl, hg, hcell, h1, _, _, hts, hA, hB⟩ := HW.out.nums.tail
    have d0 := (HW.out.below.cell (p := ⟨g, off, none⟩) hg).trans hcell
    have h1' : (1 : Int) ≤ n := by omega
    have hn' : (n : Int) ≤ c := by omega
    have h0' : 0 < n := by omega
    have HA := Lib.hid hA; have HB := Lib.hid hB
    clear hl hA hB hcell
    by_cases hr : l ≤ t ∧ t ≤ m
    · rw [show wNum l m ⟨T, t :: ts, B⟩ = some (t, ⟨T, ts, B⟩) by unfold wNum; simp only; rw [if_pos hr]]
      obtain ⟨hr1, hr2⟩ := hr
      by_cases hc1 : c = 1
      · subst hc1
        obtain rfl : n = 1 := by omega
        have HP := Lib.hid (HW.out.put1 (HB.out rfl (some ⟨g, off, none⟩)))
        go_enter Tryd.func69, Tryd.ntmps69
        go_wp2_with fail
        refine (demand_ok _).mono ?_; rintro e w1 ⟨rfl, rfl⟩
        go_wp2_with fail
        refine (demand_ok _).mono ?_; rintro e w1 ⟨rfl, rfl⟩
        go_wp2_with fail
        go_ret
        exact .inl ⟨t, _, rfl, rfl, _, _, _, HP.out⟩
      · have hc2 : (2 : Int) ≤ c := by omega
        have HP := Lib.hid (HW.out.put1 (HA.out (by omega)))
        go_enter Tryd.func69, Tryd.ntmps69
        go_wp2_with fail
        refine (demand_ok _).mono ?_; rintro e w1 ⟨rfl, rfl⟩
        go_wp2_with fail
        refine (demand_ok _).mono ?_; rintro e w1 ⟨rfl, rfl⟩
        go_wp2_with fail
        go_ret
        exact .inl ⟨t, _, rfl, rfl, _, _, _, HP.out⟩
    · rw [show wNum l m ⟨T, t :: ts, B⟩ = none by unfold wNum; simp only; rw [if_neg hr]]
      by_cases hr1 : l ≤ t
      · have hr2 : m < t := by omega
        have hr3 : decide (t ≤ m) = false := by simp; omega
        clear hr
        go_enter Tryd.func69, Tryd.ntmps69
        go_wp2_with fail
        refine (demand_ok _).mono ?_; rintro e w1 ⟨rfl, rfl⟩
        go_wp2_with fail
        refine (demand_no _).mono ?_; rintro e w1 ⟨rfl, rfl⟩
        go_wp2_with fail
        exact ⟨rfl, .inr ⟨rfl, rfl, HW.out.below⟩⟩
      · have hr2 : t < l := by omega
        clear hr hr1
        go_enter Tryd.func69, Tryd.ntmps69
        go_wp2_with fail
        refine (demand_ok _).mono ?_; rintro e w1 ⟨rfl, rfl⟩
        go_wp2_with fail
        refine (demand_no _).mono ?_; rintro e w1 ⟨rfl, rfl⟩
        go_wp2_with fail
        exact ⟨rfl, .inr ⟨rfl, rfl, HW.out.below⟩⟩

theorem info_u8 : (Tryd.prog.info? 5).map (fun i => (i.zero, i.size, i.bytes)) = some (some (.int .u8 0), 1, 1) := by kernel_rfl

set_option maxRecDepth 100000 in
set_option maxHeartbeats 4000000 in
theorem zero_any (w0 w : World) (s : WS) (hr : s.B.length ≤ 1000000) (h : IsW w0 w s) :
    Calls Tryd.prog 68 #[.pointer (some ⟨w0.heap.size, 0, none⟩)] w (WOut w0 (some (wZero s))) := by
  obtain ⟨i0, hi, y0, y1, y2⟩ := info_parts info_u8
  obtain ⟨tv, nv, bv, hW⟩ := h
  obtain ⟨a, c, rfl⟩ := hW.room_blocks
  have c2 := hW.c2
  have f2 := hW.f2
  have hz := hW.lt
  have HW := Lib.hid hW
  clear hW
  go_enter Tryd.func68, Tryd.ntmps68
  go_wp2_with (at_builtin; refine wpList_append_at _ rfl (.tmp 6) (.tmp 7) 69 rfl (w0.heap.size + 1) 5 i0 (.int .u8 0) 1 1 Tryd.underlying69 hi y0 y1 y2 rfl (by decide) (.slice a s.B.length c) s.B.length (bcells s.B) rfl (HW.out.body.alloc _) ⟨w.heap.size, 0, none⟩ 1 1 [.int .u8 0] rfl rfl (fun j u h => by rw [Go.WideShapes.add_plain, Nat.zero_add, ← h]; exact (World.cell?_alloc_new w _ _ j).trans (by simp)) (by intro u hu; simp at hu; rcases hu with rfl; rfl) (by unfold maxLen; omega) (by omega) (by simp; omega) ?_)
  intro v' w1 hO hg _
  obtain ⟨a', c', rfl⟩ := ownsRow_form hO
  have HB := Lib.hid (HW.out.grewA hg)
  obtain ⟨e2, g2, hz1⟩ := HW.out.after HB.out
  have HP := Lib.hid (HW.out.put2 (B := s.B ++ [0]) HB.out (by rw [bcells_append, List.length_append]; exact hO))
  clear hO hg c2 f2
  go_wp2_with fail
  go_end0
  exact .inl ⟨_, rfl, rfl, _, _, _, HP.out⟩

/-- An append whose outcome is known. -/
theorem wpList_append_eq {P : Program} {w : World} {ops : Array Oper} {rest : List Oper} {o : Oper} {a : Act} {Q : Exit → Act → World → Prop} (hgd : o.guard = none) (s x : Operand) (t u : TypeId)
    (ho : o.op = .call { callee := .builtin .append, args := #[s, x], argTypes := #[t, u] }) (vs vx : Value) (hs : a.eval s = vs) (hx : a.eval x = vx) (v' : Value) (w' : World)
    (hrun : (Builtin.append_ #[t, u] o.type #[vs, vx]).run P w = .ok v' w') (h : wpList P ops Q rest (a.put o.dst v') w') : wpList P ops Q (o :: rest) a w :=
  wpList_plain hgd fun _ hK => by
    unfold Oper.wp execOp
    simp only [ho, resolve, invoke, builtin, Sem.run_bind, Sem.run_pure, Result.andThen_ok, List.map_toArray, List.map_cons, List.map_nil, hs, hx, hrun]
    exact hK _ _ h

set_option maxRecDepth 100000 in
set_option maxHeartbeats 4000000 in
/-- A text put behind the body, as it is. -/
theorem put_text {w0 w : World} {s : WS} {tv nv : Value} {a : Option Addr} {c : Nat} (X : ByteArray) (hr : s.B.length ≤ 1000000) (hx : X.size ≤ 1000000) (h : WAt w0 w s tv nv (.slice a s.B.length c)) :
    ∃ a' c' w1, (Builtin.append_ #[69, 9] 69 #[.slice a s.B.length c, .string X]).run Tryd.prog w = .ok (.slice a' (s.B.length + X.size) c') w1 ∧ w1.cell? ⟨w0.heap.size, 2, none⟩ = some (.slice a s.B.length c) ∧ w1.frozen? ⟨w0.heap.size, 2, none⟩ = false ∧ w0.heap.size < w1.heap.size ∧ WAt w0 (w1.setCell ⟨w0.heap.size, 2, none⟩ (.slice a' (s.B.length + X.size) c')) { s with B := s.B ++ bytes X } tv nv (.slice a' (s.B.length + X.size) c') := by
  obtain ⟨i0, hi, y0, y1, y2⟩ := info_parts info_u8
  obtain ⟨v', w1, hrun, hO, hg, _⟩ := run_append_own_string (P := Tryd.prog) w (w0.heap.size + 1) 69 9 69 5 i0 Tryd.underlying69 Tryd.underlying9 hi y0 y1 y2 _ _ _ h.body X (by unfold maxLen; omega) (by omega) h.lt
  obtain ⟨a', c', rfl⟩ := ownsRow_form hO
  obtain ⟨e2, g2, hz1⟩ := h.after (h.grew hg)
  refine ⟨a', c', w1, hrun, e2, g2, hz1, h.put2 (B := s.B ++ bytes X) (h.grew hg) ?_⟩
  rw [bcells_append, List.length_append, blen]
  exact hO
end Go.Proofs.YtfdffiphlpeegaaDoor
