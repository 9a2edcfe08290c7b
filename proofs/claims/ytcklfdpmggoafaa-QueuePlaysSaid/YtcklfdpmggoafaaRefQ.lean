/- The document's own queue: what it is, New, Join, List. -/
import Derived.Test.YtcklfdpmggoafaaExpire
import Derived.Deep.RegionHeld3
namespace Go.Proofs.Ytcklfdpmggoafaa
open Go.RowKit Go.Lib Go.WideShapes Go.Maps

theorem Try.info46 : (Try.prog.info? 46).map (fun i => (i.zero, i.size, i.bytes)) = some (some (.agg #[.int .i64 0, .int .i64 0]), 2, 16) := by kernel_rfl

def waitCells (L : Waits) : List Value := L.flatMap fun q => [.int .i64 q.1, .int .i64 q.2]
theorem waitCells_append (g h : Waits) : waitCells (g ++ h) = waitCells g ++ waitCells h := by simp [waitCells]
theorem waitCells_snoc (g : Waits) (q : Int × Int) : waitCells (g ++ [q]) = waitCells g ++ [.int .i64 q.1, .int .i64 q.2] := by simp [waitCells]
theorem waitCells_length (g : Waits) : (waitCells g).length = g.length * 2 := by
  induction g with
  | nil => rfl
  | cons q g ih => simp [waitCells] at ih ⊢; omega

theorem waitCells_at (g : Waits) (j : Nat) (h : j < g.length) : (waitCells g)[j * 2]? = some (.int .i64 g[j].1) ∧ (waitCells g)[j * 2 + 1]? = some (.int .i64 g[j].2) := by
  induction g generalizing j with
  | nil => simp at h
  | cons q g ih =>
    cases j with
    | zero => simp [waitCells]
    | succ j =>
      have := ih j (by simpa using h)
      rw [show (j + 1) * 2 = j * 2 + 2 by omega, show j * 2 + 2 + 1 = j * 2 + 1 + 2 by omega]
      simpa [waitCells] using this

theorem wait_one (g : Waits) : ∀ u ∈ waitCells g, u.oneCell' = true := by
  intro u hu
  simp only [waitCells, List.mem_flatMap, List.mem_cons, List.not_mem_nil, or_false] at hu
  obtain ⟨q, _, rfl | rfl⟩ := hu <;> rfl

theorem waitCells_take (g : Waits) (i : Nat) : (waitCells g).take (i * 2) = waitCells (g.take i) := by
  induction g generalizing i with
  | nil => simp [waitCells]
  | cons q g ih =>
    cases i with
    | zero => simp [waitCells]
    | succ i =>
      have := ih i
      rw [show (i + 1) * 2 = i * 2 + 1 + 1 by omega, List.take_succ_cons]
      simpa [waitCells] using this

theorem waitCells_drop (g : Waits) (i : Nat) : (waitCells g).drop (i * 2) = waitCells (g.drop i) := by
  induction g generalizing i with
  | nil => simp [waitCells]
  | cons q g ih =>
    cases i with
    | zero => simp [waitCells]
    | succ i =>
      have := ih i
      rw [show (i + 1) * 2 = i * 2 + 1 + 1 by omega, List.drop_succ_cons]
      simpa [waitCells] using this

/-- The document's own queue in block p, its row o. -/
structure RIs (w : World) (p : Nat) (o : Value) (most : Int) (L : Waits) : Prop where
  heap : w.heap[p]? = some (.cells #[.int .i64 most, o] 44 (0, 0))
  row : w.ownsRow 0 46 2 o L.length (waitCells L)

def RFoot (p : Nat) (o : Value) (j : Nat) : Prop := j = p ∨ o.ownBlock = some j

theorem RIs.cell {w : World} {p : Nat} {o : Value} {most : Int} {L : Waits} (h : RIs w p o most L) :
    w.cell? ⟨p, 0, none⟩ = some (.int .i64 most) ∧ w.cell? ⟨p, 1, none⟩ = some o ∧ ∀ i, w.frozen? ⟨p, i, none⟩ = false := by
  refine ⟨?_, ?_, fun i => ?_⟩
  · simp [World.cell?, h.heap]
  · simp [World.cell?, h.heap]
  · simp [World.frozen?, h.heap]

theorem RIs.lt {w : World} {p : Nat} {o : Value} {most : Int} {L : Waits} (h : RIs w p o most L) : p < w.heap.size ∧ (∀ j, o.ownBlock = some j → j < w.heap.size) ∧ o.ownBlock ≠ some p := by
  have hrow : ∀ j, o.ownBlock = some j → ∃ cur, w.heap[j]? = some (.cells cur 46 (0, 0)) := by
    intro j hj
    rcases h.row.2 with ⟨ho, _⟩ | ⟨g, cap, cur, ho, _, hg, _⟩
    · rw [ho] at hj; cases hj
    · rw [ho] at hj; simp [Value.ownBlock] at hj; subst hj; exact ⟨cur, hg⟩
  refine ⟨(Array.getElem?_eq_some_iff.1 h.heap).1, fun j hj => ?_, fun e => ?_⟩
  · obtain ⟨cur, hc⟩ := hrow j hj; exact (Array.getElem?_eq_some_iff.1 hc).1
  · obtain ⟨cur, hc⟩ := hrow p e; rw [h.heap] at hc; simp at hc

theorem RIs.kept {w w' : World} {p : Nat} {o : Value} {most : Int} {L : Waits} (h : RIs w p o most L) (hk : ∀ j, j < w.heap.size → RFoot p o j → w'.heap[j]? = w.heap[j]?) : RIs w' p o most L := by
  obtain ⟨h1, h3, _⟩ := h.lt
  refine ⟨(hk p h1 (.inl rfl)).trans h.heap, h.row.1, ?_⟩
  rcases h.row.2 with hn | ⟨g, cap, cur, ho, hb, hg, rest⟩
  · exact .inl hn
  · have ho2 : o.ownBlock = some g := by rw [ho]; rfl
    exact .inr ⟨g, cap, cur, ho, hb, (hk g (h3 g ho2) (.inr ho2)).trans hg, rest⟩

theorem RIs.below {w w' : World} {p : Nat} {o : Value} {most : Int} {L : Waits} (h : RIs w p o most L) (hb : Below w.heap.size w w') : RIs w' p o most L :=
  h.kept (fun j hj _ => hb.block j hj)

theorem RIs.drewN {w : World} {p : Nat} {o : Value} {most : Int} {L : Waits} (h : RIs w p o most L) (n : Nat) : RIs (w.drewN n) p o most L := ⟨h.heap, h.row⟩

theorem RIs.at {w : World} {p : Nat} {o : Value} {most : Int} {L : Waits} (h : RIs w p o most L) {k : Nat} (hk : k < L.length) :
    ∃ g cap, o = .slice (some ⟨g, 0, none⟩) L.length cap ∧ g < w.heap.size ∧ L.length ≤ cap ∧ cap ≤ maxLen ∧ w.cell? ⟨g, k * 2, none⟩ = some (.int .i64 L[k].1) ∧ w.cell? ⟨g, k * 2 + 1, none⟩ = some (.int .i64 L[k].2) := by
  have hr := h.row
  rcases h.row.2 with ⟨_, h0⟩ | ⟨g, cap, cur, rfl, hb, hg, hn, hc, hcs, ht⟩
  · omega
  · have h3 := waitCells_at L k hk
    exact ⟨g, cap, rfl, (Array.getElem?_eq_some_iff.1 hg).1, hn, hc, (hr.cellAt (k * 2) (by omega)).trans h3.1, (hr.cellAt (k * 2 + 1) (by omega)).trans h3.2⟩

/-- What a call on it leaves. -/
def RLeft (p : Nat) (o : Value) (most : Int) (L' : Waits) (r : Value) (w : World) (e : Ending) (w' : World) : Prop :=
  e = .returned r ∧ ∃ o', RIs w' p o' most L' ∧ Kept w w' (RFoot p o) (RFoot p o')

/-- A new row, stored. -/
theorem ref_end {w w1 : World} {p : Nat} {o v' : Value} {most : Int} {L L' : Waits} (h : RIs w p o most L)
    (hO : w1.ownsRow 0 46 2 v' L'.length (waitCells L')) (hp1 : w1.heap[p]? = w.heap[p]?) (hg : ∀ j, j < w.heap.size → ¬ RFoot p o j → w1.heap[j]? = w.heap[j]?) (hos : w1.os = w.os ∧ w1.tape = w.tape ∧ w1.output = w.output ∧ w.heap.size ≤ w1.heap.size) (hnew : ∀ k, v'.ownBlock = some k → o.ownBlock = some k ∨ w.heap.size ≤ k) :
    RIs (w1.setCell ⟨p, 1, none⟩ v') p v' most L' ∧ Kept w (w1.setCell ⟨p, 1, none⟩ v') (RFoot p o) (RFoot p v') := by
  obtain ⟨hp, ho, hop⟩ := h.lt
  obtain ⟨ho1, ho2, ho3, hz1⟩ := hos
  have hsz2 : (w1.setCell ⟨p, 1, none⟩ v').heap.size = w1.heap.size := by simp [World.setCell]
  have hp1' := hp1.trans h.heap
  have hset : ∀ j, j ≠ p → (w1.setCell ⟨p, 1, none⟩ v').heap[j]? = w1.heap[j]? := fun j hj => Below.heap_setCell _ _ _ _ hj
  have hp2 : (w1.setCell ⟨p, 1, none⟩ v').heap[p]? = some (.cells #[.int .i64 most, v'] 44 (0, 0)) := by
    rw [setCell_eq_setRow w1 p 1 _ _ (0, 0) v' hp1']
    exact setRow_heap w1 p _ _ _ _ hp1'
  have hvp : v'.ownBlock ≠ some p := fun e => (hnew p e).elim hop (fun h => by omega)
  refine ⟨⟨hp2, ?_⟩, ⟨ho1, ho2, ho3, by omega, fun j hj hf => ?_, fun j hj => ?_⟩⟩
  · refine ⟨hO.1, ?_⟩
    rcases hO.2 with hn | ⟨g, cap, cur, hv, hb, hgg, rest⟩
    · exact .inl hn
    · have hvg : v'.ownBlock = some g := by rw [hv]; rfl
      refine .inr ⟨g, cap, cur, hv, hb, ?_, rest⟩
      rw [hset g (fun e => hvp (by rw [hvg, e]))]
      exact hgg
  · have hjp : j ≠ p := fun e => hf (.inl e)
    rw [hset j hjp]
    exact hg j hj hf
  · rcases hj with rfl | hj
    · exact .inl (.inl rfl)
    · exact (hnew j hj).imp (fun h => .inr h) id

theorem rnew_ok (most : Int) (w : World) (h : 1 ≤ most ∧ most ≤ 1000) :
    Calls Try.prog 11 #[.int .i64 most] w fun e w' => e = .returned (.tuple #[.pointer (some ⟨w.heap.size, 0, none⟩), .int .i64 0]) ∧ RIs w' w.heap.size (.slice none 0 0) most [] ∧ Below w.heap.size w w' := by
  have hd : decide ((1000 : Int) < most) = false := decide_eq_false (by omega)
  have hd2 : decide (most < (1 : Int)) = false := decide_eq_false (by omega)
  obtain ⟨h1, h2⟩ := h
  go_enter Try.func11, Try.ntmps11
  go_wp2_with fail
  go_ret2
  exact ⟨rfl, ⟨heap_alloc_new w _, World.ownsRow_nil _ _ _ _⟩, (Below.refl _ _).alloc (Nat.le_refl _) _⟩

theorem rnew_none (most : Int) (w : World) (h : most < 1 ∨ 1000 < most) :
    Calls Try.prog 11 #[.int .i64 most] w fun e w' => e = .returned (.tuple #[.pointer none, .int .i64 1]) ∧ w = w' := by
  rcases h with h | h
  · go_enter Try.func11, Try.ntmps11
    go_wp2_with fail
    go_ret2
    exact ⟨rfl, rfl⟩
  · have h1 : ¬ most < 1 := by omega
    go_enter Try.func11, Try.ntmps11
    go_wp2_with fail
    go_ret2
    exact ⟨rfl, rfl⟩

/-- Join's answer. -/
def rj (L : Waits) (most id now : Int) : Waits × Int := if (look L id).isSome then (L, 6) else if most ≤ L.length then (L, 7) else (L ++ [(id, now)], 0)

set_option maxHeartbeats 4000000 in
theorem rjoin_any (p : Nat) (o : Value) (most : Int) (L : Waits) (id now : Int) (w : World) (h : RIs w p o most L) (hlen : (L.length : Int) ≤ 1000) :
    Calls Try.prog 14 #[.pointer (some ⟨p, 0, none⟩), .int .i64 id, .int .i64 now] w (RLeft p o most (rj L most id now).1 (.int .i64 (rj L most id now).2) w) := by
  obtain ⟨i0, hi, y0, y1, y2⟩ := info_parts Try.info46
  obtain ⟨c0, c1, f0⟩ := h.cell
  obtain ⟨oa, oc, rfl⟩ := ownsRow_form h.row
  have H := Lib.hid h
  have F0 := Lib.hid f0
  clear h f0
  go_enter Try.func14, Try.ntmps14
  go_wp2_with fail
  go_loop [7, 7] (fun i _ => ∃ k : Nat, k ≤ L.length ∧ i = .int .i64 k ∧ look (L.drop k) id = look L id) (fun i _ => L.length - (intOf i).toNat)
  case atStart => exact ⟨0, Nat.zero_le _, rfl, rfl⟩
  case round =>
    obtain ⟨k, hk, rfl, hL⟩ := hrel
    have HL := Lib.hid hL
    clear hL
    by_cases hlt : k < L.length
    · obtain ⟨g, cap, ho, hgl, _, _, d0, _⟩ := H.out.at hlt
      injection ho with ho1 _ ho2
      subst ho1
      subst ho2
      have HD := Lib.hid (show look (L.drop k) id = if L[k].1 = id then some L[k].2 else look (L.drop (k + 1)) id by rw [List.drop_eq_getElem_cons hlt, look_cons])
      obtain ⟨q, hq⟩ : ∃ q, q = L[k] := ⟨_, rfl⟩
      rw [← hq] at d0 HD
      clear hq
      by_cases e : q.1 = id
      · have he : (q.1 == id) = true := by simpa using e
        have HS := Lib.hid (show (look L id).isSome = true by rw [← HL.out, HD.out, if_pos e]; rfl)
        clear e HD
        go_wp2_with fail
        go_ret
        unfold rj
        rw [if_pos HS.out]
        exact ⟨rfl, _, H.out, Kept.refl _ _⟩
      · have he : (q.1 == id) = false := by simpa using e
        have HS := Lib.hid (show look (L.drop (k + 1)) id = look L id by rw [← HL.out, HD.out, if_neg e])
        clear e HD
        go_wp2_with fail
        go_round
        case rel => exact ⟨k + 1, by omega, by go_num, HS.out⟩
        case measure => simp [intOf]; omega
    · obtain rfl : k = L.length := by omega
      have HN := Lib.hid (show look L id = none by rw [← HL.out, List.drop_length]; rfl)
      clear HL
      by_cases hf : most ≤ L.length
      · have hd : decide (most ≤ (L.length : Int)) = true := decide_eq_true hf
        have HF := Lib.hid hf
        go_wp2_with fail
        go_quiet (fail)
        go_wp2_with fail
        go_ret
        unfold rj
        rw [if_neg (by rw [HN.out]; simp), if_pos HF.out]
        exact ⟨rfl, _, H.out.drewN _, Kept.drewN _ _ _⟩
      · have hd : decide (most ≤ (L.length : Int)) = false := decide_eq_false hf
        have HF := Lib.hid hf
        go_wp2_with fail
        go_quiet (fail)
        have hc : (w.drewN nq).cell? ⟨p, 1, none⟩ = some (.slice oa L.length oc) := c1
        have hK0 := Kept.drewN w (RFoot p (.slice oa L.length oc)) nq
        have HQ := Lib.hid (H.out.drewN nq); have HK0 := Lib.hid hK0
        have hf0 := F0.out 1
        have hf1 : (w.drewN nq).frozen? ⟨p, 1, none⟩ = false := hf0
        clear c0 c1 H F0 hK0 hf0
        generalize w.drewN nq = w0 at HQ hc HK0 hf1 ⊢
        go_wp2_with (at_builtin; refine wpList_append_at _ rfl (.tmp 41) (.tmp 45) 42 rfl 0 46 i0 (.agg #[.int .i64 0, .int .i64 0]) 2 16 Try.underlying42 hi y0 y1 y2 rfl (by decide) (.slice oa L.length oc) L.length (waitCells L) rfl (HQ.out.row.alloc _) ⟨w0.heap.size, 0, none⟩ 1 1 [.int .i64 id, .int .i64 now] rfl rfl ?c1 ?c2 ?c3 ?c4 ?c5 ?_)
        case c1 => intro j u h; rw [add_plain, Nat.zero_add, ← h]; exact (World.cell?_alloc_new w0 _ _ j).trans (by simp)
        case c2 => intro u hu; simp at hu; rcases hu with rfl | rfl <;> rfl
        case c3 => unfold maxLen; omega
        case c4 => omega
        case c5 => omega
        intro v' w1 hO1 hg1 hnew
        obtain ⟨va, vc, rfl⟩ := ownsRow_form hO1
        have hz0 := hg1.size
        rw [World.size_alloc] at hz0
        obtain ⟨hp, ho, hop⟩ := HQ.out.lt
        have hblk : ∀ j, j < w0.heap.size → (Value.slice oa L.length oc).ownBlock ≠ some j → w1.heap[j]? = w0.heap[j]? := fun j hj hne => (hg1.block j (by rw [World.size_alloc]; omega) (fun e => hne e.symm)).trans (by first | exact heap_alloc_old w0 _ j hj | exact heap_alloc_old w0 _ hj)
        have d1 : w1.cell? ⟨p, 1, none⟩ = some (.slice oa L.length oc) := (World.cell?_of_block (a := ⟨p, 1, none⟩) (hblk p hp hop)).trans hc
        have d3 : w1.frozen? ⟨p, 1, none⟩ = false := (World.frozen?_of_block (a := ⟨p, 1, none⟩) (hblk p hp hop)).trans hf1
        have hO2 : w1.ownsRow 0 46 2 (.slice va (L.length + 1) vc) (L ++ [(id, now)]).length (waitCells (L ++ [(id, now)])) := by
          rw [List.length_append, waitCells_snoc]; exact hO1
        have hend := ref_end (w := w0) (w1 := w1) HQ.out hO2 (hblk p hp hop) (fun j hj hf => hblk j hj (fun e => hf (.inr e))) ⟨hg1.os, hg1.tape, hg1.output, by omega⟩ (fun k hk => (hnew k hk).imp_right (fun h => by first | (rw [World.size_alloc] at h; omega) | omega))
        have HE := Lib.hid hend
        clear hend hO2 hO1 hg1 hnew hblk ho hop HQ hc hf1
        go_wp2_with fail
        go_ret
        unfold rj
        rw [if_neg (by rw [HN.out]; simp), if_neg (by have := HF.out; omega)]
        exact ⟨rfl, _, HE.out.1, HK0.out.trans HE.out.2⟩

set_option maxHeartbeats 4000000 in
theorem rlist_any (p : Nat) (o : Value) (most : Int) (L : Waits) (w : World) (h : RIs w p o most L) (hlen : (L.length : Int) ≤ 1000) :
    Calls Try.prog 22 #[.pointer (some ⟨p, 0, none⟩)] w fun e w' => ∃ u, e = .returned u ∧ HoldsI w' u (L.map (·.1)) ∧ Below w.heap.size w w' := by
  obtain ⟨i0, hi, y0, y1, y2⟩ := info_parts Try.info3
  obtain ⟨c0, c1, f0⟩ := h.cell
  obtain ⟨oa, oc, rfl⟩ := ownsRow_form h.row
  obtain ⟨hp, _, _⟩ := h.lt
  have H := Lib.hid h; have C1 := Lib.hid c1
  clear h f0 c0 c1
  go_enter Try.func22, Try.ntmps22
  go_wp2_with fail
  go_loopw [3, 4] (fun v i wr => ∃ k : Nat, k ≤ L.length ∧ i = .int .i64 k ∧ wr.ownsRow w.heap.size 3 1 v k (intCells ((L.take k).map (·.1))) ∧ Below w.heap.size w wr) (fun _ i _ => L.length - (intOf i).toNat)
  case atStart => exact ⟨0, Nat.zero_le _, rfl, World.ownsRow_nil _ _ _ _, Below.refl _ _⟩
  case round =>
    obtain ⟨k, hk, rfl, hO, hB⟩ := hrel
    have c1 := (hB.cell (p := ⟨p, 1, none⟩) hp).trans C1.out
    have hz := hB.size
    obtain ⟨va, vc, rfl⟩ := ownsRow_form hO
    have HO := Lib.hid hO; have HB := Lib.hid hB
    clear hO
    by_cases hlt : k < L.length
    · obtain ⟨g, cap, ho, hgl, _, _, d0, _⟩ := H.out.at hlt
      injection ho with ho1 _ ho2
      subst ho1
      subst ho2
      have d0 := (hB.cell (p := ⟨g, k * 2, none⟩) hgl).trans d0
      have HT := Lib.hid (List.take_succ_eq_append_getElem hlt)
      obtain ⟨q, hq⟩ : ∃ q, q = L[k] := ⟨_, rfl⟩
      rw [← hq] at d0 HT
      clear hq hB
      go_wp2_with (at_builtin; refine wpList_append_own_wide _ rfl (.tmp 14) (.tmp 23) 37 rfl w.heap.size 3 i0 (.int .i64 0) 1 8 Try.underlying37 hi y0 y1 y2 rfl (by decide) (.slice va k vc) k (intCells ((L.take k).map (·.1))) rfl (HO.out.alloc _) ⟨wr.heap.size, 0, none⟩ 1 1 [.int .i64 q.1] rfl rfl ?c1 ?c2 ?c3 ?c4 ?c5 ?_)
      case c2 => first | rfl | (intro u hu; simp at hu; rcases hu with rfl; rfl)
      case c3 => unfold maxLen; omega
      case c4 => omega
      case c5 => first | omega | (simp; omega)
      intro v' w5 hO5 hg5 _
      have HB5 := Lib.hid (below_grown (HB.out.alloc hz _) (by simp; omega) hg5 (fun k hk => (HO.out.lt k hk).1))
      have HO5 : Hid (w5.ownsRow w.heap.size 3 1 v' (k + 1) (intCells ((L.take (k + 1)).map (·.1)))) := by rw [HT.out, List.map_append, intCells_append]; first | exact Lib.hid hO5 | (rw [List.map_take]; exact Lib.hid hO5)
      clear hO5 hg5
      go_wp2_with fail
      go_roundw
      case rel => exact ⟨k + 1, by omega, by go_num, HO5.out, HB5.out⟩
      case measure => simp [intOf]; omega
    · obtain rfl : k = L.length := by omega
      clear hB
      go_wp2_with fail
      go_ret
      have hO := HO.out
      rw [List.take_length] at hO
      exact ⟨_, rfl, own_holdsI (by rw [List.length_map]; exact hO), HB.out⟩
end Go.Proofs.Ytcklfdpmggoafaa
