/- New, Join, First, List: what each leaves of a queue. -/
import Derived.Test.YtcklfdpmggoafaaQueue
namespace Go.Proofs.Ytcklfdpmggoafaa
open Go.RowKit Go.Lib Go.WideShapes Go.Maps

theorem int_law : Keyed Try.prog 3 := int_keyed Try.underlying3
theorem int_wf {a : Int} (h : -9223372036854775808 ≤ a ∧ a ≤ 9223372036854775807) : (Lit.int .i64 a).wf = true := by
  simpa [Lit.wf, IntKind.min, IntKind.max, IntKind.signed, IntKind.bits] using h

/-- What a queue's own method leaves: the queue with L', the answer r. -/
def Left (p B : Nat) (o : Value) (most : Int) (L' : Waits) (N : Nat) (r : Value) (w : World) (e : Ending) (w' : World) : Prop :=
  e = .returned r ∧ ∃ o', QIs w' p B o' most L' N ∧ Kept w w' (Foot p B o) (Foot p B o')

theorem new_ok (most : Int) (w : World) (h : 1 ≤ most ∧ most ≤ 1000) :
    Calls Try.prog 10 #[.int .i64 most] w fun e w' => e = .returned (.tuple #[.pointer (some ⟨w.heap.size + 1, 0, none⟩), .int .i64 0]) ∧ QIs w' (w.heap.size + 1) w.heap.size (.slice none 0 0) most [] 0 ∧ Below w.heap.size w w' := by
  have hd : decide ((1000 : Int) < most) = false := decide_eq_false (by omega)
  have hd2 : decide (most < (1 : Int)) = false := decide_eq_false (by omega)
  obtain ⟨h1, h2⟩ := h
  have hmm := @run_makeMap Try.prog
  go_enter Try.func10, Try.ntmps10
  go_wp2_with fail
  go_ret2
  refine ⟨by simp, ⟨?_, World.ownsRow_nil _ _ _ _, ⟨.map [], 0, (World.ownsMap_made _ _ _ _).alloc _, Nat.le_refl _, Tells.nil⟩, by simp, by simp, by simp; omega⟩, ((Below.refl _ _).alloc (Nat.le_refl _) _).alloc (by simp) _⟩
  have := heap_alloc_new (w.alloc (.map #[] 0)) (.cells #[.int .i64 most, .slice none 0 0, .map (some w.heap.size)] 54)
  rw [World.size_alloc] at this
  exact this

theorem new_none (most : Int) (w : World) (h : most < 1 ∨ 1000 < most) :
    Calls Try.prog 10 #[.int .i64 most] w fun e w' => e = .returned (.tuple #[.pointer none, .int .i64 1]) ∧ w = w' := by
  rcases h with h | h
  · go_enter Try.func10, Try.ntmps10
    go_wp2_with fail
    go_ret2
    exact ⟨rfl, rfl⟩
  · have h1 : ¬ most < 1 := by omega
    go_enter Try.func10, Try.ntmps10
    go_wp2_with fail
    go_ret2
    exact ⟨rfl, rfl⟩

set_option maxHeartbeats 2000000 in
theorem join_state (p B : Nat) (o : Value) (most : Int) (L : Waits) (N : Nat) (id now : Int) (w : World) (h : QIs w p B o most L N) (hid : -9223372036854775808 ≤ id ∧ id ≤ 9223372036854775807) (hl : (look L id).isSome = true) :
    Calls Try.prog 13 #[.pointer (some ⟨p, 0, none⟩), .int .i64 id, .int .i64 now] w (Left p B o most L N (.int .i64 6) w) := by
  obtain ⟨c0, c1, c2, _⟩ := h.cell
  obtain ⟨D, n, hm, hn, ht⟩ := h.map
  have hh : has D (.int .i64 id) = true := by rw [ht.has, hl]
  have H := Lib.hid h; have HM := Lib.hid hm
  have HK := Lib.hid (keyOf_int_mk (P := Try.prog) Try.underlying3 (int_wf hid))
  clear h hm ht
  go_enter Try.func13, Try.ntmps13
  go_wp2_with (at_lookup; refine wpList_lookup_own_ok_int _ rfl (.tmp 13) (.tmp 14) 52 rfl 3 3 .i64 int_law Try.underlying52 Try.underlying3 (Try.zeroV3 _) B n D rfl HM.out (.int .i64 id) (.int .i64 id) rfl HK.out ?_; intro c _ _)
  go_ret
  exact ⟨rfl, o, H.out, Kept.refl _ _⟩

set_option maxHeartbeats 2000000 in
theorem join_full (p B : Nat) (o : Value) (most : Int) (L : Waits) (N : Nat) (id now : Int) (w : World) (h : QIs w p B o most L N) (hid : -9223372036854775808 ≤ id ∧ id ≤ 9223372036854775807) (hl : look L id = none) (hf : most ≤ L.length) :
    Calls Try.prog 13 #[.pointer (some ⟨p, 0, none⟩), .int .i64 id, .int .i64 now] w (Left p B o most L N (.int .i64 7) w) := by
  obtain ⟨c0, c1, c2, _⟩ := h.cell
  obtain ⟨D, n, hm, hn, ht⟩ := h.map
  have hh : has D (.int .i64 id) = false := by rw [ht.has, hl]; rfl
  obtain ⟨oa, oc, rfl⟩ := ownsRow_form h.row
  have H := Lib.hid h; have HM := Lib.hid hm
  have HK := Lib.hid (keyOf_int_mk (P := Try.prog) Try.underlying3 (int_wf hid))
  clear h hm ht
  go_enter Try.func13, Try.ntmps13
  go_wp2_with (at_lookup; refine wpList_lookup_own_ok_int _ rfl (.tmp 13) (.tmp 14) 52 rfl 3 3 .i64 int_law Try.underlying52 Try.underlying3 (Try.zeroV3 _) B n D rfl HM.out (.int .i64 id) (.int .i64 id) rfl HK.out ?_; intro c _ _)
  go_quiet (fail)
  go_wp2_with fail
  go_ret
  exact ⟨rfl, _, H.out.drewN _, Kept.drewN _ _ _⟩

/-- A queue's row and second cell, and its map, behind a change of all three. -/
theorem queue_end {w w1 w3 : World} {p B : Nat} {o v' : Value} {most : Int} {L L' : Waits} {N n : Nat} {D' : DataW Unit} (h : QIs w p B o most L N)
    (hO : w1.ownsRow 0 3 1 v' L'.length (intCells (L'.map (·.1)))) (hp1 : w1.heap[p]? = w.heap[p]?) (hg : ∀ j, j < w.heap.size → ¬ Foot p B o j → w1.heap[j]? = w.heap[j]?) (hos : w1.os = w.os ∧ w1.tape = w.tape ∧ w1.output = w.output ∧ w.heap.size ≤ w1.heap.size) (hnew : ∀ k, v'.ownBlock = some k → o.ownBlock = some k ∨ w.heap.size ≤ k)
    (hm : w3.ownsMap Try.prog 3 (plainElem Try.prog 3) B n D') (hg3 : (w1.setCell ⟨p, 1, none⟩ v').grownBy w3 (some B)) (ht : Tells D' L') (hnd : (L'.map (·.1)).Nodup) (hr : ∀ q ∈ L', (-9223372036854775808 ≤ q.1 ∧ q.1 ≤ 9223372036854775807) ∧ 0 ≤ q.2 ∧ q.2 ≤ 1000000) (hmost : (L'.length : Int) ≤ most) :
    QIs w3 p B v' most L' n ∧ Kept w w3 (Foot p B o) (Foot p B v') := by
  obtain ⟨hp, hB, ho, hpB, hop, hoB⟩ := h.lt
  obtain ⟨ho1, ho2, ho3, hz1⟩ := hos
  have hsz2 : (w1.setCell ⟨p, 1, none⟩ v').heap.size = w1.heap.size := by simp [World.setCell]
  have hz3 : w1.heap.size ≤ w3.heap.size := by have := hg3.size; omega
  have hp1' := hp1.trans h.heap
  have hset : ∀ j, j ≠ p → (w1.setCell ⟨p, 1, none⟩ v').heap[j]? = w1.heap[j]? := fun j hj => Below.heap_setCell _ _ _ _ hj
  have hp2 : (w1.setCell ⟨p, 1, none⟩ v').heap[p]? = some (.cells #[.int .i64 most, v', .map (some B)] 54 (0, 0)) := by
    rw [setCell_eq_setRow w1 p 1 _ _ (0, 0) v' hp1']
    exact setRow_heap w1 p _ _ _ _ hp1'
  have hvp : v'.ownBlock ≠ some p := fun e => (hnew p e).elim hop (fun h => by omega)
  have hvB : v'.ownBlock ≠ some B := fun e => (hnew B e).elim hoB (fun h => by omega)
  refine ⟨⟨(hg3.block p (by omega) (fun e => hpB (by simpa using e))).trans hp2, ?_, ⟨D', n, hm, Nat.le_refl _, ht⟩, hnd, hr, hmost, h.most_le.2⟩, ⟨hg3.os.trans ho1, hg3.tape.trans ho2, hg3.output.trans ho3, by omega, fun j hj hf => ?_, fun j hj => ?_⟩⟩
  · refine ⟨hO.1, ?_⟩
    rcases hO.2 with hn | ⟨g, cap, cur, hv, hb, hgg, rest⟩
    · exact .inl hn
    · have hvg : v'.ownBlock = some g := by rw [hv]; rfl
      have hg1 : g < w1.heap.size := (Array.getElem?_eq_some_iff.1 hgg).1
      refine .inr ⟨g, cap, cur, hv, hb, ?_, rest⟩
      rw [hg3.block g (by omega) (fun e => hvB (by rw [hvg, e])), hset g (fun e => hvp (by rw [hvg, e]))]
      exact hgg
  · have hjp : j ≠ p := fun e => hf (.inl e)
    have hjB : j ≠ B := fun e => hf (.inr (.inl e))
    rw [hg3.block j (by omega) (fun e => hjB (by simpa using e)), hset j hjp]
    exact hg j hj hf
  · rcases hj with rfl | rfl | hj
    · exact .inl (.inl rfl)
    · exact .inl (.inr (.inl rfl))
    · exact (hnew j hj).imp (fun h => .inr (.inr h)) id

theorem QIs.more {w : World} {p B : Nat} {o : Value} {most : Int} {L : Waits} {n N : Nat} (h : QIs w p B o most L n) (hn : n ≤ N) : QIs w p B o most L N := by
  obtain ⟨h1, h2, ⟨D, m, h3, h4, h5⟩, h6, h7, h8⟩ := h
  exact ⟨h1, h2, ⟨D, m, h3, by omega, h5⟩, h6, h7, h8⟩

set_option maxHeartbeats 4000000 in
theorem join_ok (p B : Nat) (o : Value) (most : Int) (L : Waits) (N : Nat) (id now : Int) (w : World) (h : QIs w p B o most L N) (hid : -9223372036854775808 ≤ id ∧ id ≤ 9223372036854775807) (hnow : 0 ≤ now ∧ now ≤ 1000000) (hl : look L id = none) (hf : (L.length : Int) < most) (hN : N ≤ 1000000) :
    Calls Try.prog 13 #[.pointer (some ⟨p, 0, none⟩), .int .i64 id, .int .i64 now] w (Left p B o most (L ++ [(id, now)]) (N + 1) (.int .i64 0) w) := by
  obtain ⟨i0, hi, y0, y1, y2⟩ := info_parts Try.info3
  obtain ⟨c0, c1, c2, f0⟩ := h.cell
  obtain ⟨D, n, hm, hn, ht⟩ := h.map
  have hh : has D (.int .i64 id) = false := by rw [ht.has, hl]; rfl
  obtain ⟨oa, oc, rfl⟩ := ownsRow_form h.row
  have hlen : (L.length : Int) ≤ 1000 := by have := h.most_le; omega
  have H := Lib.hid h; have HM := Lib.hid hm; have HT := Lib.hid ht; have HL := Lib.hid hl; have F0 := Lib.hid f0
  have HK := Lib.hid (keyOf_int_mk (P := Try.prog) Try.underlying3 (int_wf hid))
  have HV := Lib.hid (plainElem_int (H := Unit) (P := Try.prog) Try.underlying3 (int_wf (a := now) (by omega)))
  clear h hm ht hl f0
  go_enter Try.func13, Try.ntmps13
  go_wp2_with (at_lookup; refine wpList_lookup_own_ok_int _ rfl (.tmp 13) (.tmp 14) 52 rfl 3 3 .i64 int_law Try.underlying52 Try.underlying3 (Try.zeroV3 _) B n D rfl HM.out (.int .i64 id) (.int .i64 id) rfl HK.out ?_; intro c _ _)
  go_quiet (fail)
  have hQ := H.out.drewN nq
  have hM2 : (w.drewN nq).ownsMap Try.prog 3 (plainElem Try.prog 3) B n D := HM.out
  have hc : (w.drewN nq).cell? ⟨p, 1, none⟩ = some (.slice oa L.length oc) ∧ (w.drewN nq).cell? ⟨p, 2, none⟩ = some (.map (some B)) := ⟨c1, c2⟩
  have hK0 := Kept.drewN w (Foot p B (.slice oa L.length oc)) nq
  have HQ := Lib.hid hQ; have HM2 := Lib.hid hM2; have HK0 := Lib.hid hK0
  clear hQ hM2 c0 c1 c2 HM F0 hK0
  generalize w.drewN nq = w0 at HQ HM2 hc HK0 ⊢
  obtain ⟨c1, c2⟩ := hc
  have hsz : L.length ≤ 1000 := by omega
  go_wp2_with (at_builtin; refine wpList_append_at _ rfl (.tmp 33) (.tmp 35) 37 rfl 0 3 i0 (.int .i64 0) 1 8 Try.underlying37 hi y0 y1 y2 rfl (by decide) (.slice oa L.length oc) L.length (intCells (L.map (·.1))) rfl (HQ.out.row.alloc _) ⟨w0.heap.size, 0, none⟩ 1 1 [.int .i64 id] rfl rfl ?c1 ?c2 ?c3 ?c4 ?c5 ?_)
  case c1 => intro j u h; rw [add_plain, Nat.zero_add, ← h]; exact (World.cell?_alloc_new w0 _ _ j).trans (by simp)
  case c2 => intro u hu; simp at hu; rcases hu with rfl; rfl
  case c3 => unfold maxLen; omega
  case c4 => omega
  case c5 => omega
  intro v' w1 hO1 hg1 hnew
  have hz0 := hg1.size
  rw [World.size_alloc] at hz0
  obtain ⟨hp, hB, ho, hpB, hop, hoB⟩ := HQ.out.lt
  have hblk : ∀ j, j < w0.heap.size → (Value.slice oa L.length oc).ownBlock ≠ some j → w1.heap[j]? = w0.heap[j]? := fun j hj hne => (hg1.block j (by rw [World.size_alloc]; omega) (fun e => hne e.symm)).trans (by first | exact heap_alloc_old w0 _ j hj | exact heap_alloc_old w0 _ hj)
  have d1 : w1.cell? ⟨p, 1, none⟩ = some (.slice oa L.length oc) := (World.cell?_of_block (a := ⟨p, 1, none⟩) (hblk p hp hop)).trans c1
  have d2 : w1.cell? ⟨p, 2, none⟩ = some (.map (some B)) := (World.cell?_of_block (a := ⟨p, 2, none⟩) (hblk p hp hop)).trans c2
  have d3 : w1.frozen? ⟨p, 1, none⟩ = false := (World.frozen?_of_block (a := ⟨p, 1, none⟩) (hblk p hp hop)).trans (HQ.out.cell.2.2.2 1)
  obtain ⟨va, vc, rfl⟩ := ownsRow_form hO1
  have hm1 : (w1.setCell ⟨p, 1, none⟩ (.slice va (L.length + 1) vc)).ownsMap Try.prog 3 (plainElem Try.prog 3) B n D := ((HM2.out.alloc _).kept hg1 (fun e => hoB e.symm)).setCell (fun e => hpB e.symm) _
  have hO2 : w1.ownsRow 0 3 1 (.slice va (L.length + 1) vc) (L ++ [(id, now)]).length (intCells ((L ++ [(id, now)]).map (·.1))) := by
    rw [List.length_append, List.map_append, intCells_append]; exact hO1
  have hend := fun w3 hm3 hg3 => queue_end (w := w0) (w1 := w1) (w3 := w3) (n := n + 1) (D' := D.put (.int .i64 id) (.lit (.int .i64 now))) HQ.out hO2 (hblk p hp hop) (fun j hj hf => hblk j hj (fun e => hf (.inr (.inr e)))) ⟨hg1.os, hg1.tape, hg1.output, by omega⟩ (fun k hk => (hnew k hk).imp_right (fun h => by first | (rw [World.size_alloc] at h; omega) | omega)) hm3 hg3 (HT.out.put id now HL.out)
    (by rw [List.map_append, List.nodup_append]; refine ⟨HQ.out.nodup, by simp, fun x hx y hy e => look_none.1 HL.out ?_⟩; simp at hy; rw [← hy, ← e]; exact hx)
    (by intro q hq; rcases List.mem_append.1 hq with hq | hq; exact HQ.out.range q hq; simp at hq; subst hq; exact ⟨hid, hnow⟩) (by rw [List.length_append]; simp; omega)
  have HEND := Lib.hid hend; have HM1 := Lib.hid hm1
  have hn2 : n ≤ 1000000 := by omega
  clear hend hm1 hO2 hO1 hg1 hblk hnew c1 c2 HM2 HT HL
  go_wp2_with (at_mapUpdate; refine wpList_mapUpdate_own _ rfl (.tmp 42) (.tmp 43) (.tmp 44) 52 rfl 3 3 int_law Try.underlying52 _ B n D rfl HM1.out (by unfold maxLen; omega) (.int .i64 id) (.int .i64 now) (.int .i64 id) rfl rfl HK.out (.lit (.int .i64 now)) [] HV.out ?_)
  intro w3 hm3 hg3
  obtain ⟨hQ3, hK3⟩ := HEND.out w3 hm3 hg3
  have hQ4 := hQ3.more (N := N + 1) (by omega)
  have HQ4 := Lib.hid hQ4; have HK4 := Lib.hid (HK0.out.trans hK3)
  clear hm3 hg3 hQ3 hK3 hQ4 HEND HM1
  go_wp2_with fail
  go_ret
  exact ⟨rfl, _, HQ4.out, HK4.out⟩
end Go.Proofs.Ytcklfdpmggoafaa
