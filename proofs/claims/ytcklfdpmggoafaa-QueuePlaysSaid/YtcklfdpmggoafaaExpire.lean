/- Expire: who waits too long goes. -/
import Derived.Test.YtcklfdpmggoafaaLeave
namespace Go.Proofs.Ytcklfdpmggoafaa
open Go.RowKit Go.Lib Go.WideShapes Go.Maps

/-- Does q wait too long? -/
def late (now wait : Int) (q : Int × Int) : Bool := decide (wait ≤ now - q.2)

theorem expire_off (p B : Nat) (o : Value) (most : Int) (L : Waits) (N : Nat) (now wait : Int) (w : World) (h : QIs w p B o most L N) (hw : wait < 1) :
    Calls Try.prog 18 #[.pointer (some ⟨p, 0, none⟩), .int .i64 now, .int .i64 wait] w (Left p B o most L N (.slice none 0 0) w) := by
  have H := Lib.hid h
  clear h
  go_enter Try.func18, Try.ntmps18
  go_wp2_with fail
  go_ret
  exact ⟨rfl, o, H.out, Kept.refl _ _⟩

/-- What Expire leaves: the answer is a row of its own, apart from the queue. -/
def Expired (p B : Nat) (o : Value) (most : Int) (L : Waits) (N : Nat) (now wait : Int) (w : World) (e : Ending) (w' : World) : Prop :=
  ∃ u o', e = .returned u ∧ HoldsI w' u ((L.filter (late now wait)).map (·.1)) ∧ (∀ j, u.ownBlock = some j → w.heap.size ≤ j ∧ ¬ Foot p B o' j) ∧ QIs w' p B o' most (L.filter fun q => !late now wait q) N ∧ Kept w w' (Foot p B o) (Foot p B o')

theorem step_late {L : Waits} {k : Nat} (hk : k < L.length) (f : Int × Int → Bool) : (L.take (k + 1)).filter f = (L.take k).filter f ++ (if f L[k] then [L[k]] else []) := by
  rw [List.take_succ_eq_append_getElem hk, List.filter_append]
  by_cases h : f L[k] <;> simp [h]

theorem del_front {R T : Waits} {q : Int × Int} (hn : ((R ++ q :: T).map (·.1)).Nodup) : ((R ++ q :: T).filter fun x => !decide (x.1 = q.1)) = R ++ T := by
  have hi : R.length < (R ++ q :: T).length := by simp
  have := filter_at hi hn
  have e1 : (R ++ q :: T)[R.length] = q := by simp
  rw [e1] at this
  rw [this]
  congr 1
  · simp
  · rw [show R.length + 1 = (R ++ [q]).length by simp, show R ++ q :: T = (R ++ [q]) ++ T by simp, List.drop_left]

theorem rest_nodup {L : Waits} (hn : (L.map (·.1)).Nodup) (k : Nat) (f : Int × Int → Bool) : (((L.take k).filter f ++ L.drop k).map (·.1)).Nodup := by
  refine hn.sublist (List.Sublist.map _ ?_)
  conv => rhs; rw [← List.take_append_drop k L]
  exact List.Sublist.append List.filter_sublist (List.Sublist.refl _)

theorem grow_more {w wr w1 : World} {B : Nat} {row : Option Nat} {x : Obj} (h : w.grownBy wr (some B)) (hg : (wr.alloc x).grownBy w1 row) (hr : ∀ k, row = some k → w.heap.size ≤ k) : w.grownBy w1 (some B) := by
  have h1 := h.size
  have h2 := hg.size
  rw [World.size_alloc] at h2
  exact ⟨hg.os.trans h.os, hg.tape.trans h.tape, hg.output.trans h.output, by omega, fun j hj hne => (hg.block j (by rw [World.size_alloc]; omega) (fun e => by have := hr j e.symm; omega)).trans ((by first | exact heap_alloc_old wr _ j (by omega) | exact heap_alloc_old wr _ (by omega) : (wr.alloc x).heap[j]? = wr.heap[j]?).trans (h.block j hj hne))⟩

theorem grow_map {w w1 w3 : World} {B : Nat} (h : w.grownBy w1 (some B)) (hg : w1.grownBy w3 (some B)) : w.grownBy w3 (some B) := by
  have h1 := h.size
  have h2 := hg.size
  exact ⟨hg.os.trans h.os, hg.tape.trans h.tape, hg.output.trans h.output, by omega, fun j hj hne => (hg.block j (by omega) hne).trans (h.block j hj hne)⟩

theorem ne_some {a b : Option Nat} (h : ∀ j, a = some j → b ≠ some j) : b = none ∨ b ≠ a := by
  cases b with
  | none => exact .inl rfl
  | some j => exact .inr (fun e => h j e.symm rfl)

theorem ne_some2 {a b : Option Nat} (h : ∀ j, a = some j → b ≠ some j) : a = none ∨ a ≠ b := by
  cases a with
  | none => exact .inl rfl
  | some j => exact .inr (fun e => h j rfl e.symm)

set_option maxHeartbeats 8000000 in
theorem expire_on (p B : Nat) (o : Value) (most : Int) (L : Waits) (N : Nat) (now wait : Int) (w : World) (h : QIs w p B o most L N) (hnow : 0 ≤ now ∧ now ≤ 1000000) (hw : 1 ≤ wait ∧ wait ≤ 9223372036854775807) :
    Calls Try.prog 18 #[.pointer (some ⟨p, 0, none⟩), .int .i64 now, .int .i64 wait] w (Expired p B o most L N now wait w) := by
  obtain ⟨i0, hi, y0, y1, y2⟩ := info_parts Try.info3
  obtain ⟨c0, c1, c2, f0⟩ := h.cell
  have hH := h.holds
  obtain ⟨oa, oc, rfl⟩ := ownsRow_form h.row
  have hlen : (L.length : Int) ≤ 1000 := by have := h.most_le; omega
  obtain ⟨hp, hB, ho, hpB, hop, hoB⟩ := h.lt
  obtain ⟨hw1, hw2⟩ := hw
  have H := Lib.hid h; have HH := Lib.hid hH; have F0 := Lib.hid f0
  clear h hH f0
  go_enter Try.func18, Try.ntmps18
  go_wp2_with fail
  clear c0 c1 c2
  go_loopw [7, 8, 18] (fun va vb i wr => ∃ (k : Nat) (D : DataW Unit) (n : Nat), k ≤ L.length ∧ i = .int .i64 k ∧ wr.ownsRow w.heap.size 3 1 va ((L.take k).filter (late now wait)).length (intCells (((L.take k).filter (late now wait)).map (·.1))) ∧ wr.ownsRow w.heap.size 3 1 vb ((L.take k).filter fun q => !late now wait q).length (intCells (((L.take k).filter fun q => !late now wait q).map (·.1))) ∧ (∀ j, va.ownBlock = some j → vb.ownBlock ≠ some j) ∧
      wr.ownsMap Try.prog 3 (plainElem Try.prog 3) B n D ∧ n ≤ N ∧ Tells D (((L.take k).filter fun q => !late now wait q) ++ L.drop k) ∧ w.grownBy wr (some B)) (fun _ _ i _ => L.length - (intOf i).toNat)
  case atStart =>
    obtain ⟨D, n, hm, hn, ht⟩ := H.out.map
    exact ⟨0, D, n, Nat.zero_le _, rfl, World.ownsRow_nil _ _ _ _, World.ownsRow_nil _ _ _ _, (by intro j hj; cases hj), hm, hn, ht, ⟨rfl, rfl, rfl, Nat.le_refl _, fun _ _ _ => rfl⟩⟩
  case round =>
    obtain ⟨k, D, n, hk, rfl, hva, hvb, hab, hm, hn, ht, hg⟩ := hrel
    have hgz := hg.size
    have c1 : wr.cell? ⟨p, 1, none⟩ = some (.slice oa L.length oc) := (World.cell?_of_block (a := ⟨p, 1, none⟩) (hg.block p hp (by simpa using hpB))).trans H.out.cell.2.1
    have c2 : wr.cell? ⟨p, 2, none⟩ = some (.map (some B)) := (World.cell?_of_block (a := ⟨p, 2, none⟩) (hg.block p hp (by simpa using hpB))).trans H.out.cell.2.2.1
    have f1 : wr.frozen? ⟨p, 1, none⟩ = false := (World.frozen?_of_block (a := ⟨p, 1, none⟩) (hg.block p hp (by simpa using hpB))).trans (F0.out 1)
    obtain ⟨aa, ac, rfl⟩ := ownsRow_form hva
    obtain ⟨ba, bc, rfl⟩ := ownsRow_form hvb
    have HVA := Lib.hid hva; have HVB := Lib.hid hvb; have HAB := Lib.hid hab; have HM := Lib.hid hm; have HT := Lib.hid ht; have HG := Lib.hid hg
    have l1 : ((L.take k).filter (late now wait)).length ≤ k := Nat.le_trans (List.length_filter_le _ _) (List.length_take_le _ _)
    have l2 : ((L.take k).filter fun q => !late now wait q).length ≤ k := Nat.le_trans (List.length_filter_le _ _) (List.length_take_le _ _)
    clear hva hvb hab hm ht hg
    by_cases hlt : k < L.length
    · obtain ⟨q, hq⟩ : ∃ q, q = L[k] := ⟨_, rfl⟩
      have hrq := H.out.range q (by rw [hq]; exact List.getElem_mem hlt)
      have HLA := Lib.hid (step_late hlt (late now wait)); have HLB := Lib.hid (step_late hlt fun q => !late now wait q)
      have HDR := Lib.hid (List.drop_eq_getElem_cons hlt)
      rw [← hq] at HLA HLB HDR
      obtain ⟨b, off, hao, hb, hc⟩ := HoldsI.open (l := L.map (·.1)) (by rw [List.length_map]; exact HH.out) (by rw [List.length_map]; omega)
      subst hao
      have hbB : b ≠ B := fun e => hoB (by rw [← e]; rfl)
      have d0 : wr.cell? ⟨b, off + k, none⟩ = some (.int .i64 q.1) := (World.cell?_of_block (a := ⟨b, off + k, none⟩) (HG.out.block b hb (by simpa using hbB))).trans (by rw [hc k (by rw [List.length_map]; exact hlt), hq]; simp)
      have HND := Lib.hid (rest_nodup H.out.nodup k fun q => !late now wait q)
      rw [HDR.out] at HND HT
      have hlk := look_mem (id := q.1) (t := q.2) HND.out (by simp)
      have HC := Lib.hid (fun (c : Int) (hat : D.atKey (.int .i64 q.1) (.lit (.int .i64 0)) = .lit (.int .i64 c)) => show q.2 = c by
        rw [HT.out.tell q.1 q.2 hlk] at hat; injection hat with e; injection e)
      obtain ⟨q1, q2⟩ := q
      obtain ⟨hr1, hr2, hr3⟩ := hrq
      have HK := Lib.hid (keyOf_int_mk (P := Try.prog) Try.underlying3 (int_wf hr1))
      simp only at d0 HC hr2 hr3
      have HQ := Lib.hid hq
      clear hc hlk hr1 hq
      cases hl : late now wait (q1, q2) with
      | true =>
        have hge : wait ≤ now - q2 := of_decide_eq_true hl
        rw [hl] at HLA HLB
        clear hl
        go_wp2_with (first
          | (at_lookup; refine wpList_lookup_own_int _ rfl (.tmp 26) (.tmp 27) 52 rfl 3 3 .i64 int_law Try.underlying52 Try.underlying3 (Try.zeroV3 _) B n D rfl HM.out (.int .i64 q1) (.int .i64 q1) rfl HK.out ?_; intro c hat _; obtain rfl := HC.out c hat; clear hat)
          | (at_builtin; refine wpList_append_at _ rfl (.tmp 32) (.tmp 34) 37 rfl w.heap.size 3 i0 (.int .i64 0) 1 8 Try.underlying37 hi y0 y1 y2 rfl (by decide) (.slice aa ((L.take k).filter (late now wait)).length ac) ((L.take k).filter (late now wait)).length (intCells (((L.take k).filter (late now wait)).map (·.1))) rfl (HVA.out.alloc _) ⟨wr.heap.size, 0, none⟩ 1 1 [.int .i64 q1] rfl rfl ?g1 ?g2 ?g3 ?g4 ?g5 ?_))
        case g2 => first | rfl | (intro u hu; simp at hu; rcases hu with rfl; rfl)
        case g3 => first | omega | (unfold maxLen; omega)
        case g4 => omega
        case g5 => first | omega | (simp; omega)
        intro v1 w1 hO1 hg1 hnew
        have hrow : ∀ j, (Value.slice aa ((L.take k).filter (late now wait)).length ac).ownBlock = some j → w.heap.size ≤ j ∧ j < wr.heap.size := HVA.out.lt
        have hz1 := hg1.size
        rw [World.size_alloc] at hz1
        have hG1 := grow_more HG.out hg1 (fun j hj => (hrow j hj).1)
        have e2 : w1.cell? ⟨p, 2, none⟩ = some (.map (some B)) := (World.cell?_of_block (a := ⟨p, 2, none⟩) (hG1.block p hp (by simpa using hpB))).trans H.out.cell.2.2.1
        have hM1 := (HM.out.alloc (.cells #[.int .i64 q1] 3)).kept hg1 (fun e => by have := (hrow B e.symm).1; omega)
        have hVB1 := (HVB.out.alloc (.cells #[.int .i64 q1] 3)).kept hg1 (ne_some HAB.out)
        have hv1 : ∀ j, v1.ownBlock = some j → w.heap.size ≤ j := fun j hj => (hnew j hj).elim (fun h => (hrow j h).1) (fun h => by first | (rw [World.size_alloc] at h; omega) | omega)
        have hAB1 : ∀ j, v1.ownBlock = some j → (Value.slice ba ((L.take k).filter fun q => !late now wait q).length bc).ownBlock ≠ some j := fun j hj hb => (hnew j hj).elim (fun h => HAB.out j h hb) (fun h => by have := (HVB.out.lt j hb).2; first | (rw [World.size_alloc] at h; omega) | omega)
        have HO1 := Lib.hid hO1; have HG1 := Lib.hid hG1; have HM1 := Lib.hid hM1; have HVB1 := Lib.hid hVB1; have HV1 := Lib.hid hv1; have HAB1 := Lib.hid hAB1
        clear hO1 hg1 hnew hrow hG1 hM1 hVB1 hv1 hAB1 c1 c2 f1 d0 HG HM HVB HAB HVA HH
        go_wp2_with (at_delete; refine wpList_delete_own _ rfl (.tmp 39) (.tmp 40) 52 3 rfl 3 int_law Try.underlying52 _ B n D rfl HM1.out (.int .i64 q1) (.int .i64 q1) rfl HK.out ?_)
        intro w3 hm3 hg3
        have hg4 := hg3.grown
        have hG3 := grow_map HG1.out hg4
        have hO3 := HO1.out.kept hg4 (ne_some2 (b := some B) (fun j hj e => by have := HV1.out j hj; simp at e; omega))
        have hVB3 := HVB1.out.kept hg4 (ne_some2 (b := some B) (fun j hj e => by have := (HVB1.out.lt j hj).1; simp at e; omega))
        have HO3 := Lib.hid hO3; have HVB3 := Lib.hid hVB3; have HM3 := Lib.hid hm3; have HG3 := Lib.hid hG3
        clear hm3 hg3 hg4 hG3 hO3 hVB3
        go_wp2_with fail
        go_roundw
        case rel =>
          have ea : (L.take (k + 1)).filter (late now wait) = (L.take k).filter (late now wait) ++ [(q1, q2)] := by have := HLA.out; simpa using this
          have eb : ((L.take (k + 1)).filter fun q => !late now wait q) = (L.take k).filter fun q => !late now wait q := by have := HLB.out; simpa using this
          refine ⟨k + 1, D.del (.int .i64 q1), n, by omega, by go_num, ?_, ?_, HAB1.out, HM3.out, hn, ?_, HG3.out⟩
          · rw [ea, List.length_append, List.map_append, intCells_append]; exact HO3.out
          · rw [eb]; exact HVB3.out
          · rw [eb]; have := HT.out.del q1; rw [del_front (q := (q1, q2)) HND.out] at this; exact this
        case measure => simp [intOf]; omega
      | false =>
        have hge : ¬ wait ≤ now - q2 := of_decide_eq_false hl
        rw [hl] at HLA HLB
        clear hl
        go_wp2_with (first
          | (at_lookup; refine wpList_lookup_own_int _ rfl (.tmp 26) (.tmp 27) 52 rfl 3 3 .i64 int_law Try.underlying52 Try.underlying3 (Try.zeroV3 _) B n D rfl HM.out (.int .i64 q1) (.int .i64 q1) rfl HK.out ?_; intro c hat _; obtain rfl := HC.out c hat; clear hat)
          | (at_builtin; refine wpList_append_at _ rfl (.tmp 41) (.tmp 43) 37 rfl w.heap.size 3 i0 (.int .i64 0) 1 8 Try.underlying37 hi y0 y1 y2 rfl (by decide) (.slice ba ((L.take k).filter fun q => !late now wait q).length bc) ((L.take k).filter fun q => !late now wait q).length (intCells (((L.take k).filter fun q => !late now wait q).map (·.1))) rfl (HVB.out.alloc _) ⟨wr.heap.size, 0, none⟩ 1 1 [.int .i64 q1] rfl rfl ?f1 ?f2 ?f3 ?f4 ?f5 ?_))
        case f2 => first | rfl | (intro u hu; simp at hu; rcases hu with rfl; rfl)
        case f3 => first | omega | (unfold maxLen; omega)
        case f4 => omega
        case f5 => first | omega | (simp; omega)
        intro v1 w1 hO1 hg1 hnew
        have hrow : ∀ j, (Value.slice ba ((L.take k).filter fun q => !late now wait q).length bc).ownBlock = some j → w.heap.size ≤ j ∧ j < wr.heap.size := HVB.out.lt
        have hG1 := grow_more HG.out hg1 (fun j hj => (hrow j hj).1)
        have hM1 := (HM.out.alloc (.cells #[.int .i64 q1] 3)).kept hg1 (fun e => by have := (hrow B e.symm).1; omega)
        have hVA1 := (HVA.out.alloc (.cells #[.int .i64 q1] 3)).kept hg1 (ne_some2 HAB.out)
        have hAB1 : ∀ j, (Value.slice aa ((L.take k).filter (late now wait)).length ac).ownBlock = some j → v1.ownBlock ≠ some j := fun j hj hb => (hnew j hb).elim (fun h => HAB.out j hj h) (fun h => by have := (HVA.out.lt j hj).2; first | (rw [World.size_alloc] at h; omega) | omega)
        have HO1 := Lib.hid hO1; have HG1 := Lib.hid hG1; have HM1 := Lib.hid hM1; have HVA1 := Lib.hid hVA1; have HAB1 := Lib.hid hAB1
        clear hO1 hg1 hnew hrow hG1 hM1 hVA1 hAB1 c1 c2 f1 d0 HG HM HVB HAB HVA HH
        go_wp2_with fail
        go_roundw
        case rel =>
          have ea : (L.take (k + 1)).filter (late now wait) = (L.take k).filter (late now wait) := by have := HLA.out; simpa using this
          have eb : ((L.take (k + 1)).filter fun q => !late now wait q) = ((L.take k).filter fun q => !late now wait q) ++ [(q1, q2)] := by have := HLB.out; simpa using this
          refine ⟨k + 1, D, n, by omega, by go_num, ?_, ?_, HAB1.out, HM1.out, hn, ?_, HG1.out⟩
          · rw [ea]; exact HVA1.out
          · rw [eb, List.length_append, List.map_append, intCells_append]; exact HO1.out
          · rw [eb, List.append_assoc]; exact HT.out
        case measure => simp [intOf]; omega
    · obtain rfl : k = L.length := by omega
      rw [List.take_length] at HVA HVB HAB HT l1 l2 ⊢
      rw [List.drop_length, List.append_nil] at HT
      obtain ⟨la, hla⟩ : ∃ la, la = (L.filter (late now wait)).length := ⟨_, rfl⟩
      obtain ⟨lb, hlb⟩ : ∃ lb, lb = (L.filter fun q => !late now wait q).length := ⟨_, rfl⟩
      rw [← hla] at HVA HAB ⊢
      rw [← hlb] at HVB HAB ⊢
      have hrowa := HVA.out.lt
      have hrowb := HVB.out.lt
      have hgp : wr.grownBy (wr.setCell ⟨p, 1, none⟩ (.slice ba lb bc)) (some p) := ⟨rfl, rfl, rfl, by simp [World.setCell], fun j _ hne => Below.heap_setCell _ _ _ _ (fun e => hne (by rw [e]))⟩
      have hva3 := HVA.out.kept hgp (ne_some2 (b := some p) (fun j hj e => by have := (hrowa j hj).1; simp at e; omega))
      have hu : HoldsI (wr.setCell ⟨p, 1, none⟩ (.slice ba lb bc)) (.slice aa la ac) ((L.filter (late now wait)).map (·.1)) := own_holdsI (base := w.heap.size) (e := 3) (by rw [List.length_map, ← hla]; exact hva3)
      have hO0 : wr.ownsRow 0 3 1 (.slice ba lb bc) (L.filter fun q => !late now wait q).length (intCells ((L.filter fun q => !late now wait q).map (·.1))) := by
        rw [← hlb]
        refine ⟨HVB.out.1, HVB.out.2.imp id ?_⟩
        rintro ⟨g, cap, cur, h1, _, h3⟩
        exact ⟨g, cap, cur, h1, Nat.zero_le _, h3⟩
      have hm3 : (wr.setCell ⟨p, 1, none⟩ (.slice ba lb bc)).ownsMap Try.prog 3 (plainElem Try.prog 3) B n D := HM.out.setCell (fun e => hpB e.symm) _
      obtain ⟨hQ3, hK3⟩ := queue_end (w := w) (w1 := wr) (n := n) (D' := D) H.out hO0 (HG.out.block p hp (by simpa using hpB)) (fun j hj hf => HG.out.block j hj (fun e => hf (.inr (.inl (by simpa using e))))) ⟨HG.out.os, HG.out.tape, HG.out.output, hgz⟩ (fun k hk => .inr (hrowb k hk).1) hm3 ⟨rfl, rfl, rfl, Nat.le_refl _, fun _ _ _ => rfl⟩ HT.out
        (H.out.nodup.sublist (List.Sublist.map _ List.filter_sublist)) (fun q hq => H.out.range q (List.mem_filter.1 hq).1) (by have := H.out.most_le.1; have := List.length_filter_le (fun q : Int × Int => !late now wait q) L; omega)
      have HQ3 := Lib.hid (hQ3.more hn); have HK3 := Lib.hid hK3; have HU := Lib.hid hu
      have hap : ∀ j, (Value.slice aa la ac).ownBlock = some j → w.heap.size ≤ j ∧ ¬ Foot p B (.slice ba lb bc) j := fun j hj => ⟨(hrowa j hj).1, fun hf => by
        have := (hrowa j hj).1
        rcases hf with rfl | rfl | hf
        · omega
        · omega
        · exact HAB.out j hj hf⟩
      have HAP := Lib.hid hap
      clear HH hQ3 hK3 hu hap hm3 hO0 hva3 hgp hrowa hrowb hla hlb HVA HVB HAB HM HG HT
      go_wp2_with fail
      go_ret
      exact ⟨_, _, rfl, HU.out, HAP.out, HQ3.out, HK3.out⟩
end Go.Proofs.Ytcklfdpmggoafaa
