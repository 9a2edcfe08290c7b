/- slices.Insert of one pair ahead of others, into a row of the call's own: there is room, or there is none. -/
import Derived.Test.YtjckfdpkcaloiaaInsert
namespace Go.Proofs.Ytjckfdpkcaloiaa
open Go.RowKit Go.Lib Go.WideShapes

/-- Copying cells, elements of k cells each: all is read before anything is written. -/
theorem run_copy_wide {P : Program} (w : World) (dT sT ty elem : TypeId) (k b o dLen dCap : Nat) (a : Addr) (sLen sCap : Nat) (cs : List Value)
    (hu : P.underlying dT = some (.slice elem)) (hs : (P.info? elem).map (·.size) = some k) (hn : cs.length = Nat.min sLen dLen * k)
    (hsrc : ∀ j v, cs[j]? = some v → w.cell? (a.add j) = some v) (hc : ∀ j, j < cs.length → (w.cell? ⟨b, o + j, none⟩).isSome = true) (hf : ∀ j, j < cs.length → w.frozen? ⟨b, o + j, none⟩ = false) (h1 : ∀ v ∈ cs, v.oneCell' = true) :
    (Builtin.copy_ #[dT, sT] ty #[.slice (some ⟨b, o, none⟩) dLen dCap, .slice (some a) sLen sCap]).run P w = .ok (goInt (Nat.min sLen dLen)) (w.setCells b o cs) := by
  have hl := run_loadCells_list (P := P) w a cs hsrc
  have hst := run_storeCells_cells (P := P) b o cs 0 w (by simpa using hc) (by simpa using hf) h1
  cases hq : P.info? elem with
  | none => simp [hq] at hs
  | some i =>
    have hi : i.size = k := by simpa [hq] using hs
    simp [Builtin.copy_, run_underlying hu, Builtin.lenOf, Builtin.firstCells, sizeOf, typeInfo, hq, hi, ← hn, hl, hst]

theorem wp_copy_run {P : Program} (w : World) {o : Oper} {a : Act} {K : Act → World → Prop} {Q : Exit → Act → World → Prop} (d s : Operand) (t t' : TypeId)
    (ho : o.op = .call { callee := .builtin .copy, args := #[d, s], argTypes := #[t, t'] }) (v u : Value) (hd : a.eval d = v) (hs : a.eval s = u) {v' : Value} {w' : World}
    (hr : (Builtin.copy_ #[t, t'] o.type #[v, u]).run P w = .ok v' w') (h : K (a.put o.dst v') w') : o.wp P a w K Q := by
  unfold Oper.wp execOp
  simp only [ho, resolve, invoke, builtin, Sem.run_bind, Sem.run_pure, Result.andThen_ok, List.map_toArray, List.map_cons, List.map_nil, hd, hs, hr]
  exact h

theorem wpList_copy_run {P : Program} (w : World) {ops : Array Oper} {rest : List Oper} {o : Oper} {a : Act} {Q : Exit → Act → World → Prop} (hgd : o.guard = none) (d s : Operand) (t t' : TypeId)
    (ho : o.op = .call { callee := .builtin .copy, args := #[d, s], argTypes := #[t, t'] }) (v u : Value) (hd : a.eval d = v) (hs : a.eval s = u) {v' : Value} {w' : World}
    (hr : (Builtin.copy_ #[t, t'] o.type #[v, u]).run P w = .ok v' w') (h : wpList P ops Q rest (a.put o.dst v') w') : wpList P ops Q (o :: rest) a w :=
  wpList_plain hgd fun _ hK => wp_copy_run w d s t t' ho v u hd hs hr (hK _ _ h)

theorem step_copy_run {P : Program} {ops : Array Oper} {o : Oper} {a : Act} {w : World} {K : Act → World → Prop} {Q : Exit → Act → World → Prop} {E : Prop}
    (hg : o.guard = none) (d x : Operand) (dT sT : TypeId) (hop : o.op = Op.call { callee := Callee.builtin Builtin.copy, args := #[d, x], argTypes := #[dT, sT] })
    (v u : Value) (hd : a.eval d = v) (hx : a.eval x = u) {v' : Value} {w' : World} (hr : (Builtin.copy_ #[dT, sT] o.type #[v, u]).run P w = .ok v' w') (hK : K (a.put o.dst v') w') :
    if Region.wanted o (yielded ops a.tmps) = true then Oper.wp P o a w K Q else E := by
  have hw : Region.wanted o (yielded ops a.tmps) = true := by simp [Region.wanted, hg]
  rw [if_pos hw]
  exact wp_copy_run w d x dT sT hop v u hd hx hr hK

theorem Try.sizeOf43 (w : World) : (Go.sizeOf 43).run Try.prog w = .ok 2 w := by kernel_rfl

theorem drop_two (g : Pairs) (i : Nat) : (pairCells g).drop (i * 2) = pairCells (g.drop i) := by
  by_cases h : i ≤ g.length
  · have e : pairCells g = pairCells (g.take i) ++ pairCells (g.drop i) := by rw [← pairCells_append, List.take_append_drop]
    rw [e, List.drop_left' (by rw [pairCells_length, List.length_take]; omega)]
  · rw [List.drop_eq_nil_of_le (by rw [pairCells_length]; omega), List.drop_eq_nil_of_le (show g.length ≤ i by omega)]; rfl

theorem take_two (g : Pairs) (i : Nat) : (pairCells g).take (i * 2) = pairCells (g.take i) := by
  by_cases h : i ≤ g.length
  · have e : pairCells g = pairCells (g.take i) ++ pairCells (g.drop i) := by rw [← pairCells_append, List.take_append_drop]
    rw [e, List.take_left' (by rw [pairCells_length, List.length_take]; omega)]
  · rw [List.take_of_length_le (by rw [pairCells_length]; omega), List.take_of_length_le (show g.length ≤ i by omega)]

theorem own_more {w : World} {base size n cap g : Nat} {e : TypeId} {xs : List Value} (h : w.ownsRow base e size (.slice (some ⟨g, 0, none⟩) n cap) n xs) {m : Nat} (hn : n ≤ m) (hm : m ≤ cap) :
    ∃ ys, ys.length = m * size ∧ ys.take (n * size) = xs ∧ w.ownsRow base e size (.slice (some ⟨g, 0, none⟩) m cap) m ys := by
  rcases h.2 with ⟨hv, _⟩ | ⟨g', cap', cur, hv, hb, hg, hnn, hc, hcs, ht⟩
  · cases hv
  · simp only [Value.slice.injEq, Option.some.injEq, Addr.mk.injEq, and_true, true_and] at hv
    obtain ⟨rfl, rfl⟩ := hv
    have h1 : n * size ≤ m * size := Nat.mul_le_mul_right _ hn
    have h2 : m * size ≤ cap * size := Nat.mul_le_mul_right _ hm
    have hl : (cur.toList.take (m * size)).length = m * size := by rw [List.length_take, Array.length_toList]; omega
    exact ⟨cur.toList.take (m * size), hl, by rw [List.take_take, Nat.min_eq_left h1, ht], hl, .inr ⟨_, _, cur, rfl, hb, hg, hm, hc, hcs, rfl⟩⟩

theorem ins_one {g : Pairs} {i : Nat} (x y : ByteArray) {ys : List Value} (hi : i ≤ g.length) (hl : ys.length = (g.length + 1) * 2) (ht : ys.take (i * 2) = pairCells (g.take i)) :
    setL (setL ys ((i + 1) * 2) (pairCells (g.drop i))) (i * 2) [.string x, .string y] = pairCells (g.take i ++ (x, y) :: g.drop i) := by
  have hd : (pairCells (g.drop i)).length = (g.length - i) * 2 := by rw [pairCells_length, List.length_drop]
  rw [setL_eq _ _ _ (by rw [setL_length, hl]; simp; omega), setL_eq _ _ _ (by rw [hd, hl]; omega), hd, List.drop_eq_nil_of_le (show ys.length ≤ (i + 1) * 2 + (g.length - i) * 2 by omega), List.append_nil]
  have h1 : (ys.take ((i + 1) * 2)).length = (i + 1) * 2 := by rw [List.length_take]; omega
  rw [List.take_append_of_le_length (by omega), List.take_take, Nat.min_eq_left (by omega), ht, pairCells_append]
  congr 1
  rw [show i * 2 + [Value.string x, Value.string y].length = (i + 1) * 2 by simp; omega, List.drop_left' h1]
  rfl

theorem ins_two {g : Pairs} {i : Nat} (x y : ByteArray) {ys : List Value} (hi : i ≤ g.length) (hl : ys.length = (g.length + 1) * 2) (ht : ys.take (i * 2) = pairCells (g.take i)) :
    setL (setL ys (i * 2) [.string x, .string y]) ((i + 1) * 2) (pairCells (g.drop i)) = pairCells (g.take i ++ (x, y) :: g.drop i) := by
  have hd : (pairCells (g.drop i)).length = (g.length - i) * 2 := by rw [pairCells_length, List.length_drop]
  rw [setL_eq _ _ _ (by rw [setL_length, hl, hd]; omega), hd, List.drop_eq_nil_of_le (show (setL ys (i * 2) [Value.string x, Value.string y]).length ≤ (i + 1) * 2 + (g.length - i) * 2 by rw [setL_length, hl]; omega), List.append_nil, setL_eq _ _ _ (by rw [hl]; simp; omega), ht, ← List.append_assoc]
  have h1 : (pairCells (g.take i) ++ [Value.string x, Value.string y]).length = (i + 1) * 2 := by rw [List.length_append, pairCells_length, List.length_take]; simp; omega
  rw [List.take_left' h1, pairCells_append, List.append_assoc]
  rfl

theorem drew_setCells (b : Nat) : ∀ (vs : List Value) (o : Nat) (w : World), (w.setCells b o vs).drew = w.drew.setCells b o vs
  | [], _, _ => rfl
  | v :: r, o, w => by rw [World.setCells, World.setCells, drew_setCells b r]; rfl

set_option maxHeartbeats 4000000 in
theorem insert_shift (gb cap : Nat) (g : Pairs) (x y : ByteArray) (i vb base : Nat) (w : World) (h : w.ownsRow base 43 2 (.slice (some ⟨gb, 0, none⟩) g.length cap) g.length (pairCells g)) (hb : Box w vb x y) (hne : vb ≠ gb) (hi : i < g.length) (hroom : g.length + 1 ≤ cap) (hbase : base ≤ w.heap.size) :
    Calls Try.prog 24 #[.slice (some ⟨gb, 0, none⟩) g.length cap, .int .i64 i, .slice (some ⟨vb, 0, none⟩) 1 1] w fun e w' => ∃ u, e = .returned u ∧ Holds w' u (g.take i ++ (x, y) :: g.drop i) ∧ Below base w w' := by
  obtain ⟨_, hcm, hbg, hgw, hsh, hfz, hsp⟩ := own_room h
  have hcm' : cap ≤ 9223372036854775807 := by unfold maxLen at hcm; omega
  have hH : Holds w (.slice (some ⟨gb, 0, none⟩) g.length cap) g := own_holds h
  obtain ⟨n, hn⟩ : ∃ n, n = g.length := ⟨_, rfl⟩
  have hdl : (pairCells (g.drop i)).length = (n - i) * 2 := by rw [pairCells_length, List.length_drop, hn]
  have hsz : (Try.prog.info? 43).map (·.size) = some 2 := by kernel_rfl
  have hov : ∀ lb cb, (callFunc 27 #[.slice (some ⟨vb, 0, none⟩) 1 1, .slice (some ⟨gb, (i + 1) * 2, none⟩) lb cb]).run Try.prog w = .ok (.value (.bool false)) w := fun lb cb => by
    rw [run_callFunc_extern Try.func27 (by kernel_rfl) (by kernel_rfl) (by kernel_rfl) (e := Extern.SlicesOverlaps.overlaps #[22, 22] #[4]) (by kernel_rfl),
      Lib.run_overlaps_apart w 22 4 43 Try.underlying22 2 Try.sizeOf43 ⟨vb, 0, none⟩ ⟨gb, (i + 1) * 2, none⟩ 1 1 lb cb hne 43 43 2 (cap * 2) hb.sh hsh (by omega) (hb.fz 0) (hb.fz 2)]
    rfl
  have hcp1 : ∀ ty dc sc, (Builtin.copy_ #[22, 22] ty #[.slice (some ⟨gb, (i + 1) * 2, none⟩) (n + 1 - (i + 1)) dc, .slice (some ⟨gb, i * 2, none⟩) (n + 1 - i) sc]).run Try.prog w.drew = .ok (goInt (Nat.min (n + 1 - i) (n + 1 - (i + 1)))) (w.drew.setCells gb ((i + 1) * 2) (pairCells (g.drop i))) := fun ty dc sc =>
    run_copy_wide w.drew _ _ ty 43 2 gb ((i + 1) * 2) (n + 1 - (i + 1)) dc ⟨gb, i * 2, none⟩ (n + 1 - i) sc (pairCells (g.drop i)) Try.underlying22 hsz (by rw [hdl]; simp only [Nat.min_def]; split <;> omega)
      (fun j v hj => by
        rw [add_plain]
        have := hH.cells (i * 2 + j) v (by rw [← List.getElem?_drop, drop_two]; exact hj)
        rw [Nat.zero_add] at this
        exact this)
      (fun j hj => hsp _ (by omega)) (fun j _ => hfz _) (one_cells _)
  obtain ⟨W1, hW1⟩ : ∃ W1, W1 = w.drew.setCells gb ((i + 1) * 2) (pairCells (g.drop i)) := ⟨_, rfl⟩
  obtain ⟨ys, hyl, hyt, hyo⟩ := own_more h (m := g.length + 1) (by omega) hroom
  have hyd : w.drew.ownsRow base 43 2 (.slice (some ⟨gb, 0, none⟩) (g.length + 1) cap) (g.length + 1) ys := hyo.drew
  obtain ⟨hO1, hG1⟩ := own_stored hyd (pairCells (g.drop i)) ((i + 1) * 2)
  rw [← hW1] at hO1 hG1 hcp1
  obtain ⟨_, _, _, _, _, hfz1, hsp1⟩ := own_room hO1
  obtain ⟨hO2, hG2⟩ := own_stored hO1 [.string x, .string y] (i * 2)
  rw [ins_one x y (by omega) hyl (by rw [← take_two, ← hyt, List.take_take, Nat.min_eq_left (by omega)])] at hO2
  have hcp2 : ∀ ty dc, (Builtin.copy_ #[22, 22] ty #[.slice (some ⟨gb, i * 2, none⟩) (n + 1 - i) dc, .slice (some ⟨vb, 0, none⟩) 1 1]).run Try.prog W1 = .ok (goInt (Nat.min 1 (n + 1 - i))) (W1.setCells gb (i * 2) [.string x, .string y]) := fun ty dc =>
    run_copy_wide W1 _ _ ty 43 2 gb (i * 2) (n + 1 - i) dc ⟨vb, 0, none⟩ 1 1 [.string x, .string y] Try.underlying22 hsz (by rw [show Nat.min 1 (n + 1 - i) = 1 by simp only [Nat.min_def]; split <;> omega]; rfl)
      (fun j v hj => by
        rw [hW1, World.cell?_setCells_out gb _ _ _ _ (fun h _ => absurd (show vb = gb from by simpa [add_plain] using h) hne)]
        exact hb.cells j v hj)
      (fun j hj => hsp1 _ (by simp at hj; omega)) (fun j _ => hfz1 _) (by intro u hu; simp at hu; rcases hu with rfl | rfl <;> rfl)
  have hfin : Holds (W1.setCells gb (i * 2) [.string x, .string y]) (.slice (some ⟨gb, 0, none⟩) (n + 1) cap) (g.take i ++ (x, y) :: g.drop i) := by
    have hl : (g.take i ++ (x, y) :: g.drop i).length = g.length + 1 := by rw [List.length_append, List.length_take, List.length_cons, List.length_drop]; omega
    have := own_holds (base := base) (e := 43) (v := .slice (some ⟨gb, 0, none⟩) (n + 1) cap) (g := g.take i ++ (x, y) :: g.drop i) (by rw [hl, hn]; exact hO2)
    exact this
  have hbel : Below base w (W1.setCells gb (i * 2) [.string x, .string y]) := below_grown (below_grown (Below.refl base w).drew hbase hG1 (fun k hk => by simp at hk; omega)) (Nat.le_trans hbase hG1.size) hG2 (fun k hk => by simp at hk; omega)
  rw [← hn]
  have HF := Lib.hid hfin; have HBL := Lib.hid hbel; have HW := Lib.hid hW1; have HC1 := Lib.hid hcp1; have HC2 := Lib.hid hcp2
  have hin : i < n := by omega
  have hr' : n + 1 ≤ cap := by omega
  clear hfin hbel hW1 hcp1 hcp2 hO2 hG2 hO1 hG1 hyd hyo hyt hyl hfz1 hsp1 hdl hsz hH hb h hsh hfz hsp hn hi hroom hcm hgw
  have hw1 : IntKind.i64.wrap ((i : Int) + 1) = (i : Int) + 1 := by rw [IntKind.wrap_i64]; omega
  have hb1 : (0 : Int) ≤ (i : Int) + 1 := by omega
  have htn : ((i : Int) + 1).toNat = i + 1 := by omega
  have hz2 : ¬ ((i : Int) = (n : Int)) := by omega
  have hb2 : ¬ (cap = i + 1) := by omega
  have hb3 : (i : Int) ≤ (n : Int) + 1 := by omega
  have hb4 : ¬ (cap = i) := by omega
  have hb5 : (i : Int) + 1 ≤ (n : Int) + 1 := by omega
  go_enter Try.func24, Try.ntmps24
  go_wp2_with (simp only [hov])
  go_region_law (refine step_copy_run rfl (.tmp 73) (.tmp 76) 22 22 rfl (.slice (some ⟨gb, (i + 1) * 2, none⟩) (n + 1 - (i + 1)) (cap - (i + 1))) (.slice (some ⟨gb, i * 2, none⟩) (n + 1 - i) (cap - i)) (by simp [Act.eval, Act.put]) (by simp [Act.eval, Act.put]) (HC1.out _ _ _) ?_)
  all_goals
    have hc2 := HC2.out 3 (cap - i)
    go_wp2_with fail
    go_ret
    exact ⟨_, rfl, HF.out, HBL.out⟩
end Go.Proofs.Ytjckfdpkcaloiaa
