/- The message of a body, read. -/
import Derived.Test.YtfdffiphlpeegaaDoorDIs
namespace Go.Proofs.YtfdffiphlpeegaaDoor
open Go.RowKit Go.Lib Go.WideShapes

theorem rAll_append (a b : Bs) : ∀ s, rAll (a ++ b) s = (rAll a s).bind (rAll b) := by
  induction a with
  | nil => intro s; rfl
  | cons c a ih =>
    intro s
    rw [List.cons_append, rAll, rAll]
    cases rField c s with
    | none => rfl
    | some s1 => exact ih s1
theorem rAll_next {l : Bs} {j : Nat} {c : UInt8} {s x x' : RS} (h : rAll (l.take j) s = some x) (hc : l[j]? = some c) (hf : rField c x = some x') : rAll (l.take (j + 1)) s = some x' := by
  obtain ⟨h1, e1⟩ := List.getElem?_eq_some_iff.1 hc
  rw [List.take_succ_eq_append_getElem h1, rAll_append, h, e1]
  show (rField c x).bind (rAll []) = _
  rw [hf]; rfl
theorem rAll_fail {l : Bs} {j : Nat} {c : UInt8} {s x : RS} (h : rAll (l.take j) s = some x) (hc : l[j]? = some c) (hf : rField c x = none) : rAll l s = none := by
  obtain ⟨h1, e1⟩ := List.getElem?_eq_some_iff.1 hc
  have e : l = l.take j ++ (c :: l.drop (j + 1)) := by rw [← e1, ← List.drop_eq_getElem_cons h1, List.take_append_drop]
  rw [e, rAll_append, h]
  show (rField c x).bind _ = none
  rw [hf]; rfl
theorem readL_some {back : Bool} {c : UInt8} {S : Bs} {l : Bs} (h : lay back c = some l) (hc : ¬ (back = false ∧ c = 0 ∧ isCancel S = true)) : readL back c S = (rAll l ⟨S, [], []⟩).bind rDone := by
  unfold readL layR
  rw [if_neg hc, h]; rfl
theorem readL_cancel {S : Bs} (h : isCancel S = true) : readL false 0 S = (rAll [105, 105, 105] ⟨S, [], []⟩).bind rDone := by
  unfold readL layR
  rw [if_pos ⟨rfl, rfl, h⟩]; rfl
theorem readL_none {back : Bool} {c : UInt8} {S : Bs} (h : lay back c = none) : readL back c S = none := by
  unfold readL layR
  by_cases hc : back = false ∧ c = 0 ∧ isCancel S = true
  · obtain ⟨rfl, rfl, _⟩ := hc
    rw [lay_bare] at h; cases h
  · rw [if_neg hc, h]; rfl

theorem own_four {w : World} {base n : Nat} {e : TypeId} {v : Value} {xs : List Value} (h : w.ownsRow base e 1 v n xs) (b c : Nat) (hb : b < base) (hc : c < base) (v0 v1 v2 v3 : Value) : ((((w.setCell ⟨b, 0, none⟩ v0).setCell ⟨b, 1, none⟩ v1).setCell ⟨b, 2, none⟩ v2).setCell ⟨c, 0, none⟩ v3).drew.ownsRow base e 1 v n xs :=
  (ownsRow_setCell_below (ownsRow_setCell_below (ownsRow_setCell_below (ownsRow_setCell_below h (a := ⟨b, 0, none⟩) hb v0) (a := ⟨b, 1, none⟩) hb v1) (a := ⟨b, 2, none⟩) hb v2) (a := ⟨c, 0, none⟩) hc v3).drew

theorem own_base {w : World} {b b' n : Nat} {e : TypeId} {v : Value} {xs : List Value} (h : w.ownsRow b e 1 v n xs) (hb : b' ≤ b) : w.ownsRow b' e 1 v n xs := by
  refine ⟨h.1, h.2.imp id ?_⟩
  rintro ⟨g, cap, cur, h1, h2, h3⟩
  exact ⟨g, cap, cur, h1, Nat.le_trans hb h2, h3⟩

/-- What a reading leaves: a message, whose rows lie in memory; or none. -/
def MsgOut (w : World) (c : UInt8) (err : Int) (r : Option (List Bs × List Int)) (e : Ending) (w' : World) : Prop :=
  match r with
  | some p => ∃ tv nv, e = .returned (.tuple #[.agg #[.int .u8 (c.toNat : Nat), tv, nv], .int .i64 0]) ∧ w'.ownsRow w.heap.size 9 1 tv p.1.length (tcells p.1) ∧ w'.ownsRow w.heap.size 3 1 nv p.2.length (ncells p.2) ∧ Below w.heap.size w w'
  | none => e = .returned (.tuple #[.agg #[.int .u8 0, .slice none 0 0, .slice none 0 0], .int .i64 err]) ∧ Below w.heap.size w w'

end Go.Proofs.YtfdffiphlpeegaaDoor
