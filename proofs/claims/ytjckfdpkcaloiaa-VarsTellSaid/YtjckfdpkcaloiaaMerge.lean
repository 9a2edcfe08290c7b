/- One row over another. -/
import Derived.Test.YtjckfdpkcaloiaaPlace
import Derived.Laws.AppendOwnNone
namespace Go.Proofs.Ytjckfdpkcaloiaa
open Go.RowKit Go.Lib Go.WideShapes

theorem isNaN_any (x : ByteArray) (w : World) :
    Calls Try.prog 29 #[.string x] w fun e w' => e = .returned (.bool false) ∧ w = w' := by
  go_enter Try.func29, Try.ntmps29
  go_wp2
  go_ret
  exact ⟨by simp, rfl⟩

def cmpI (x y : ByteArray) : Int := if lt x y then -1 else if lt y x then 1 else 0

theorem cmp_any (x y : ByteArray) (w : World) :
    Calls Try.prog 26 #[.string x, .string y] w fun e w' => e = .returned (.int .i64 (cmpI x y)) ∧ w = w' := by
  cases h1 : lt x y with
  | true =>
    have h1' : Op.bytesLess x.toList y.toList = true := h1
    have HE := Lib.hid (show cmpI x y = -1 by simp [cmpI, h1])
    clear h1
    go_enter Try.func26, Try.ntmps26
    go_wp2_with (go_at_call 29; refine (isNaN_any _ _).mono ?_; rintro e w' ⟨rfl, rfl⟩)
    go_ret
    exact ⟨by rw [HE.out]; rfl, rfl⟩
  | false =>
    cases h2 : lt y x with
    | true =>
      have h1' : Op.bytesLess x.toList y.toList = false := h1
      have h2' : (x.toList == y.toList) = false := by rw [eq_lists]; simpa using (lt_ne h2).symm
      have HE := Lib.hid (show cmpI x y = 1 by simp [cmpI, h1, h2])
      clear h1 h2
      go_enter Try.func26, Try.ntmps26
      go_wp2_with (go_at_call 29; refine (isNaN_any _ _).mono ?_; rintro e w' ⟨rfl, rfl⟩)
      go_ret
      exact ⟨by rw [HE.out]; rfl, rfl⟩
    | false =>
      have h1' : Op.bytesLess x.toList y.toList = false := h1
      have h2' : (x.toList == y.toList) = true := by rw [eq_lists]; simpa using lt_total h1 h2
      have HE := Lib.hid (show cmpI x y = 0 by simp [cmpI, h1, h2])
      clear h1 h2
      go_enter Try.func26, Try.ntmps26
      go_wp2_with (go_at_call 29; refine (isNaN_any _ _).mono ?_; rintro e w' ⟨rfl, rfl⟩)
      go_ret
      exact ⟨by rw [HE.out]; rfl, rfl⟩

theorem cmp_q (x y : ByteArray) (w : World) :
    Calls Try.prog 26 #[.string x, .string y] w fun e w' => e = .returned (.int .i64 (cmpI x y)) ∧ w' = w :=
  (cmp_any x y w).mono fun _ _ h => ⟨h.1, h.2.symm⟩

theorem wpList_append_holds {w : World} {ops : Array Oper} {rest : List Oper} {o : Oper} {a : Act} {Q : Exit → Act → World → Prop} (hgd : o.guard = none) (s x : Operand)
    (ho : o.op = .call { callee := .builtin .append, args := #[s, x], argTypes := #[22, 22] })
    (base : Nat) (v : Value) (r g : Pairs) (hs : a.eval s = v) (hown : w.ownsRow base 43 2 v r.length (pairCells r))
    (ao : Option Addr) (c : Nat) (hx : a.eval x = .slice ao g.length c) (hg : Holds w (.slice ao g.length c) g) (hr : r.length ≤ 20000) (hgl : g.length ≤ 20000) (hbase : base ≤ w.heap.size)
    (h : ∀ v' w', w'.ownsRow base 43 2 v' (r ++ g).length (pairCells (r ++ g)) → w.grownBy w' v.ownBlock → wpList Try.prog ops Q rest (a.put o.dst v') w') : wpList Try.prog ops Q (o :: rest) a w := by
  obtain ⟨i0, hi, y0, y1, y2⟩ := info_parts Try.info43
  cases ao with
  | none =>
    have hcg : c = 0 ∧ g = [] := by
      obtain ⟨a', c', hv, hc, _, hn, _⟩ := hg
      simp only [Value.slice.injEq] at hv
      obtain ⟨rfl, _, rfl⟩ := hv
      have := hn rfl
      exact ⟨this, List.eq_nil_of_length_eq_zero (by omega)⟩
    obtain ⟨rfl, rfl⟩ := hcg
    refine wpList_append_own_none hgd s x 22 ho base 43 i0 2 Try.underlying22 hi v r.length (pairCells r) hs hown hx ?_
    have := h v w (by rwa [List.append_nil]) ⟨rfl, rfl, rfl, Nat.le_refl _, fun _ _ _ => rfl⟩
    exact this
  | some ad =>
    refine wpList_append_own_wide _ hgd s x 22 ho base 43 i0 (.agg #[.string { data := #[] }, .string { data := #[] }]) 2 32 Try.underlying22 hi y0 y1 y2 rfl (by decide) v r.length (pairCells r) hs hown ad g.length c (pairCells g) hx (pairCells_length g) hg.cellsAdd (one_cells g) (by unfold maxLen; omega) (by omega) hbase (fun v' w' h2 h3 _ => h v' w' ?_ h3)
    rw [pairCells_append, List.length_append]
    exact h2
end Go.Proofs.Ytjckfdpkcaloiaa
