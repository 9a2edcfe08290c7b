/- First, List, Leave: what each leaves of a queue. -/
import Derived.Test.YtcklfdpmggoafaaJoin
namespace Go.Proofs.Ytcklfdpmggoafaa
open Go.RowKit Go.Lib Go.WideShapes Go.Maps

theorem QIs.holds {w : World} {p B : Nat} {o : Value} {most : Int} {L : Waits} {N : Nat} (h : QIs w p B o most L N) : HoldsI w o (L.map (·.1)) :=
  own_holdsI (by rw [List.length_map]; exact h.row)

theorem first_none (p B : Nat) (o : Value) (most : Int) (N : Nat) (w : World) (h : QIs w p B o most [] N) :
    Calls Try.prog 20 #[.pointer (some ⟨p, 0, none⟩)] w fun e w' => e = .returned (.tuple #[.int .i64 0, .bool false]) ∧ w = w' := by
  obtain ⟨c0, c1, c2, _⟩ := h.cell
  obtain ⟨oa, oc, rfl⟩ := ownsRow_form h.row
  clear h
  go_enter Try.func20, Try.ntmps20
  go_wp2
  go_ret2
  exact ⟨rfl, rfl⟩

theorem first_some (p B : Nat) (o : Value) (most : Int) (q : Int × Int) (L : Waits) (N : Nat) (w : World) (h : QIs w p B o most (q :: L) N) :
    Calls Try.prog 20 #[.pointer (some ⟨p, 0, none⟩)] w fun e w' => e = .returned (.tuple #[.int .i64 q.1, .bool true]) ∧ w = w' := by
  obtain ⟨c0, c1, c2, _⟩ := h.cell
  have hH := h.holds
  obtain ⟨oa, oc, rfl⟩ := ownsRow_form h.row
  obtain ⟨b, off, rfl, hb, hc⟩ := HoldsI.open (l := (q :: L).map (·.1)) (by simpa using hH) (by simp)
  have d0 := hc 0 (by simp)
  simp only [List.map_cons, List.getElem_cons_zero, Nat.add_zero] at d0
  have hl : (((q :: L).length : Int) == 0) = false := by first | (simp; done) | (simp; omega)
  have hl2 : (0 : Int) < (q :: L).length := by rw [List.length_cons]; omega
  generalize (q :: L).length = n at hl hl2 c1
  clear h hH hc
  go_enter Try.func20, Try.ntmps20
  go_wp2
  go_ret2
  exact ⟨rfl, rfl⟩

theorem list_any (p B : Nat) (o : Value) (most : Int) (L : Waits) (N : Nat) (w : World) (h : QIs w p B o most L N) :
    Calls Try.prog 21 #[.pointer (some ⟨p, 0, none⟩)] w fun e w' => ∃ u, e = .returned u ∧ HoldsI w' u (L.map (·.1)) ∧ Below w.heap.size w w' := by
  obtain ⟨c0, c1, c2, _⟩ := h.cell
  have hsz : (L.map (·.1)).length ≤ 7000 := by have := h.most_le; rw [List.length_map]; omega
  have HC := Lib.hid (clone_any o (L.map (·.1)) w h.holds hsz)
  clear h hsz
  go_enter Try.func21, Try.ntmps21
  go_wp2_with fail
  refine HC.out.mono ?_; rintro e w' ⟨u, rfl, hO, hb⟩
  have HO := Lib.hid hO; have HB := Lib.hid hb
  clear hO hb HC
  go_wp2_with fail
  go_ret
  exact ⟨u, rfl, own_holdsI HO.out, HB.out⟩

theorem idx_no {l : List Int} {x : Int} (h : x ∉ l) : ∀ k, idx x l k = -1 := by
  induction l with
  | nil => intro k; rfl
  | cons y l ih =>
    intro k
    rw [List.mem_cons, not_or] at h
    rw [idx, if_neg h.1, ih h.2]

theorem idx_yes {l : List Int} {x : Int} (h : x ∈ l) : ∀ k, ∃ i, ∃ hi : i < l.length, idx x l k = ((k + i : Nat) : Int) ∧ l[i] = x := by
  induction l with
  | nil => simp at h
  | cons y l ih =>
    intro k
    rw [idx]
    by_cases e : x = y
    · exact ⟨0, by simp, by rw [if_pos e]; rfl, by simp [e]⟩
    · rcases List.mem_cons.1 h with h | h
      · exact absurd h e
      · obtain ⟨i, hi, h1, h2⟩ := ih h (k + 1)
        exact ⟨i + 1, by simpa using hi, by rw [if_neg e, h1]; congr 1; omega, by simpa using h2⟩

theorem filter_at {L : Waits} {i : Nat} (hi : i < L.length) (hn : (L.map (·.1)).Nodup) : (L.filter fun q => !decide (q.1 = L[i].1)) = L.take i ++ L.drop (i + 1) := by
  have e : L = L.take i ++ L[i] :: L.drop (i + 1) := by rw [← List.drop_eq_getElem_cons hi, List.take_append_drop]
  obtain ⟨x, hx⟩ : ∃ x, x = L[i] := ⟨_, rfl⟩
  rw [← hx] at e ⊢
  have hn2 := hn
  rw [e, List.map_append, List.map_cons, List.nodup_append, List.nodup_cons] at hn2
  obtain ⟨_, ⟨h2, _⟩, h3⟩ := hn2
  conv => lhs; rw [e]
  rw [List.filter_append, List.filter_cons, if_neg (by simp)]
  congr 1
  · refine List.filter_eq_self.2 fun q hq => ?_
    have := h3 q.1 (List.mem_map.2 ⟨q, hq, rfl⟩) x.1 (by simp)
    simp [this]
  · refine List.filter_eq_self.2 fun q hq => ?_
    have : q.1 ≠ x.1 := fun e => h2 (List.mem_map.2 ⟨q, hq, e⟩)
    simp [this]

theorem leave_no (p B : Nat) (o : Value) (most : Int) (L : Waits) (N : Nat) (id : Int) (w : World) (h : QIs w p B o most L N) (hl : look L id = none) :
    Calls Try.prog 15 #[.pointer (some ⟨p, 0, none⟩), .int .i64 id] w (Left p B o most L N (.bool false) w) := by
  obtain ⟨c0, c1, c2, _⟩ := h.cell
  have HI := Lib.hid (index_any o (L.map (·.1)) id w h.holds)
  rw [idx_no (look_none.1 hl)] at HI
  have H := Lib.hid h
  clear h
  go_enter Try.func15, Try.ntmps15
  go_wp2_with fail
  refine HI.out.mono ?_; rintro e w' ⟨rfl, rfl⟩
  go_wp2_with fail
  go_ret
  exact ⟨rfl, o, H.out, Kept.refl _ _⟩

set_option maxHeartbeats 2000000 in
theorem leave_yes (p B : Nat) (o : Value) (most : Int) (L : Waits) (N : Nat) (id : Int) (w : World) (h : QIs w p B o most L N) (hid : -9223372036854775808 ≤ id ∧ id ≤ 9223372036854775807) (hl : (look L id).isSome = true) :
    Calls Try.prog 15 #[.pointer (some ⟨p, 0, none⟩), .int .i64 id] w (Left p B o most (L.filter fun q => !decide (q.1 = id)) N (.bool true) w) := by
  obtain ⟨c0, c1, c2, f0⟩ := h.cell
  have hmem : id ∈ L.map (·.1) := by
    by_cases hm : id ∈ L.map (·.1)
    · exact hm
    · rw [look_none.2 hm] at hl; cases hl
  obtain ⟨i, hi, hix, hiv⟩ := idx_yes hmem 0
  rw [List.length_map] at hi
  have HI := Lib.hid (index_any o (L.map (·.1)) id w h.holds)
  rw [hix, Nat.zero_add] at HI
  have hfil : (L.filter fun q => !decide (q.1 = id)) = L.take i ++ L.drop (i + 1) := by
    have := filter_at hi h.nodup
    rwa [show L[i].1 = id by simpa using hiv] at this
  have hv : ∃ gb cap, o = .slice (some ⟨gb, 0, none⟩) L.length cap := by
    rcases h.row.2 with ⟨_, h0⟩ | ⟨gb, cap, _, hv, _⟩
    · omega
    · exact ⟨gb, cap, hv⟩
  obtain ⟨gb, cap, rfl⟩ := hv
  have HD := Lib.hid (delete_any gb cap (L.map (·.1)) i 0 w (by rw [List.length_map]; exact h.row) (by rw [List.length_map]; exact hi))
  rw [List.length_map] at HD
  obtain ⟨D, n, hm, hn, ht⟩ := h.map
  obtain ⟨hp, hB, ho, hpB, hop, hoB⟩ := h.lt
  have hpg : p ≠ gb := fun e => hop (by rw [e]; rfl)
  have hBg : B ≠ gb := fun e => hoB (by rw [e]; rfl)
  have H := Lib.hid h; have HM := Lib.hid hm; have HT := Lib.hid ht; have HFIL := Lib.hid hfil
  have HK := Lib.hid (keyOf_int_mk (P := Try.prog) Try.underlying3 (int_wf hid))
  have hlen : (L.length : Int) ≤ 1000 := by have := h.most_le; omega
  clear h hm ht hl hmem hix hiv hfil
  go_enter Try.func15, Try.ntmps15
  go_wp2_with fail
  refine HI.out.mono ?_; rintro e w' ⟨rfl, rfl⟩
  go_wp2_with fail
  refine HD.out.mono ?_; rintro e w1 ⟨u, rfl, hub, hO1, hg1⟩
  obtain ⟨va, vc, rfl⟩ := ownsRow_form hO1
  have d1 : w1.cell? ⟨p, 1, none⟩ = some (.slice (some ⟨gb, 0, none⟩) L.length cap) := (World.cell?_of_block (a := ⟨p, 1, none⟩) (hg1.block p hp (by simpa using hpg))).trans c1
  have d2 : w1.cell? ⟨p, 2, none⟩ = some (.map (some B)) := (World.cell?_of_block (a := ⟨p, 2, none⟩) (hg1.block p hp (by simpa using hpg))).trans c2
  have d3 : w1.frozen? ⟨p, 1, none⟩ = false := (World.frozen?_of_block (a := ⟨p, 1, none⟩) (hg1.block p hp (by simpa using hpg))).trans (f0 1)
  obtain ⟨m, hm0⟩ : ∃ m, m = ((L.map (·.1)).take i ++ (L.map (·.1)).drop (i + 1)).length := ⟨_, rfl⟩
  rw [← hm0] at hO1 hub ⊢
  have hm1 : ∀ v', (w1.setCell ⟨p, 1, none⟩ v').ownsMap Try.prog 3 (plainElem Try.prog 3) B n D := fun v' => (HM.out.kept hg1 (by simpa using hBg)).setCell (fun e => hpB e.symm) v'
  have hO2 : w1.ownsRow 0 3 1 (.slice va m vc) (L.filter fun q => !decide (q.1 = id)).length (intCells ((L.filter fun q => !decide (q.1 = id)).map (·.1))) := by
    rw [HFIL.out, show (L.take i ++ L.drop (i + 1)).length = m by rw [hm0, ← List.map_take, ← List.map_drop, ← List.map_append, List.length_map], List.map_append, List.map_take, List.map_drop]
    exact hO1
  have hend := fun w3 hm3 hg3 => queue_end (w := w) (w1 := w1) (w3 := w3) (n := n) (D' := D.del (.int .i64 id)) H.out hO2 (hg1.block p hp (by simpa using hpg)) (fun j hj hf => hg1.block j hj (fun e => hf (.inr (.inr e.symm)))) ⟨hg1.os, hg1.tape, hg1.output, hg1.size⟩ (fun k hk => .inl (by rw [← hk, hub]; rfl)) hm3 hg3 (HT.out.del id)
    (H.out.nodup.sublist (List.Sublist.map _ List.filter_sublist)) (fun q hq => H.out.range q (List.mem_filter.1 hq).1) (by have := H.out.most_le.1; have := List.length_filter_le (fun q : Int × Int => !decide (q.1 = id)) L; omega)
  have HEND := Lib.hid hend; have HM1 := Lib.hid hm1
  clear hend hm1 hO2 hO1 hg1 c1 c2 f0 HM HT hub hm0 HD HI
  go_wp2_with (at_delete; refine wpList_delete_own _ rfl (.tmp 28) (.tmp 29) 52 3 rfl 3 int_law Try.underlying52 _ B n D rfl (HM1.out _) (.int .i64 id) (.int .i64 id) rfl HK.out ?_)
  intro w3 hm3 hg3
  obtain ⟨hQ3, hK3⟩ := HEND.out w3 hm3 hg3.grown
  have HQ3 := Lib.hid (hQ3.more hn); have HK3 := Lib.hid hK3
  clear hm3 hg3 hQ3 hK3 HEND HM1
  go_wp2_with fail
  go_ret
  exact ⟨rfl, _, HQ3.out, HK3.out⟩
end Go.Proofs.Ytcklfdpmggoafaa
