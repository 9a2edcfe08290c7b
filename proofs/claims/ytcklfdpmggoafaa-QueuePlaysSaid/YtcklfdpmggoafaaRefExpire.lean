/- The document's own queue: Expire. -/
import Derived.Test.YtcklfdpmggoafaaRefLeave
namespace Go.Proofs.Ytcklfdpmggoafaa
open Go.RowKit Go.Lib Go.WideShapes Go.Maps

/-- Does q wait too long, if one may wait so long at most? -/
def rlate (now wait : Int) (q : Int × Int) : Bool := decide (1 ≤ wait) && late now wait q

/-- What Expire leaves: the answer is a row of its own. -/
def RExpired (p : Nat) (o : Value) (most : Int) (L : Waits) (now wait : Int) (w : World) (e : Ending) (w' : World) : Prop :=
  ∃ u o', e = .returned u ∧ HoldsI w' u ((L.filter (rlate now wait)).map (·.1)) ∧ RIs w' p o' most (L.filter fun q => !rlate now wait q) ∧ Kept w w' (RFoot p o) (RFoot p o')

theorem next_false {w wr w1 : World} {ta tb : TypeId} {va vb v1 : Value} {na nb : Nat} {xs ys : List Value} {x : Obj} (hva : wr.ownsRow w.heap.size ta 1 va na xs) (hvb : wr.ownsRow w.heap.size tb 2 vb nb ys) (hab : ∀ j, va.ownBlock = some j → vb.ownBlock ≠ some j) (hB : Below w.heap.size w wr) (hz : w.heap.size ≤ wr.heap.size)
    (hg1 : (wr.alloc x).grownBy w1 vb.ownBlock) (hnew : ∀ k, v1.ownBlock = some k → vb.ownBlock = some k ∨ wr.heap.size + 1 ≤ k) :
    w1.ownsRow w.heap.size ta 1 va na xs ∧ (∀ j, va.ownBlock = some j → v1.ownBlock ≠ some j) ∧ Below w.heap.size w w1 ∧ True := by
  refine ⟨(hva.alloc x).kept hg1 (ne_some fun j hj hb => hab j hb hj), fun j hj hb => (hnew j hb).elim (fun h => hab j hj h) (fun h => ?_), below_grown (hB.alloc hz x) (by rw [World.size_alloc]; omega) hg1 (fun k hk => (hvb.lt k hk).1), trivial⟩
  have := (hva.lt j hj).2
  omega

theorem late_false {L : Waits} {k : Nat} {q : Int × Int} {f : Int × Int → Bool} (ha : (L.take (k + 1)).filter f = (L.take k).filter f ++ (if false = true then [q] else [])) (hb : ((L.take (k + 1)).filter fun q => !f q) = ((L.take k).filter fun q => !f q) ++ (if (!false) = true then [q] else [])) :
    (L.take (k + 1)).filter f = (L.take k).filter f ∧ ((L.take (k + 1)).filter fun q => !f q) = ((L.take k).filter fun q => !f q) ++ [q] := by
  simpa using And.intro ha hb

set_option maxHeartbeats 8000000 in
theorem rexpire_any (p : Nat) (o : Value) (most : Int) (L : Waits) (now wait : Int) (w : World) (h : RIs w p o most L) (hlen : (L.length : Int) ≤ 1000) (hnow : 0 ≤ now ∧ now ≤ 1000000) (hr : ∀ q ∈ L, 0 ≤ q.2 ∧ q.2 ≤ 1000000) :
    Calls Try.prog 19 #[.pointer (some ⟨p, 0, none⟩), .int .i64 now, .int .i64 wait] w (RExpired p o most L now wait w) := by
  obtain ⟨i0, hi, y0, y1, y2⟩ := info_parts Try.info3
  obtain ⟨j0, hj, z0, z1, z2⟩ := info_parts Try.info46
  obtain ⟨c0, c1, f0⟩ := h.cell
  obtain ⟨oa, oc, rfl⟩ := ownsRow_form h.row
  obtain ⟨hp, ho, hop⟩ := h.lt
  obtain ⟨hn1, hn2⟩ := hnow
  have H := Lib.hid h; have F0 := Lib.hid f0; have C1 := Lib.hid c1; have HR := Lib.hid hr
  clear h f0 c0 c1 hr
  go_enter Try.func19, Try.ntmps19
  go_wp2_with fail
  go_loopw [7, 8, 9] (fun va vb i wr => ∃ k : Nat, k ≤ L.length ∧ i = .int .i64 k ∧ wr.ownsRow w.heap.size 3 1 va ((L.take k).filter (rlate now wait)).length (intCells (((L.take k).filter (rlate now wait)).map (·.1))) ∧ wr.ownsRow w.heap.size 46 2 vb ((L.take k).filter fun q => !rlate now wait q).length (waitCells ((L.take k).filter fun q => !rlate now wait q)) ∧ (∀ j, va.ownBlock = some j → vb.ownBlock ≠ some j) ∧ Below w.heap.size w wr) (fun _ _ i _ => L.length - (intOf i).toNat)
  case atStart => exact ⟨0, Nat.zero_le _, rfl, World.ownsRow_nil _ _ _ _, World.ownsRow_nil _ _ _ _, (by intro j hj; cases hj), Below.refl _ _⟩
  case round =>
    obtain ⟨k, hk, rfl, hva, hvb, hab, hB⟩ := hrel
    have hz := hB.size
    have c1 := (hB.cell (p := ⟨p, 1, none⟩) hp).trans C1.out
    have f1 := (hB.frozen (p := ⟨p, 1, none⟩) hp).trans (F0.out 1)
    obtain ⟨aa, ac, rfl⟩ := ownsRow_form hva
    obtain ⟨ba, bc, rfl⟩ := ownsRow_form hvb
    have HVA := Lib.hid hva; have HVB := Lib.hid hvb; have HAB := Lib.hid hab; have HB := Lib.hid hB
    have l1 : ((L.take k).filter (rlate now wait)).length ≤ k := Nat.le_trans (List.length_filter_le _ _) (List.length_take_le _ _)
    have l2 : ((L.take k).filter fun q => !rlate now wait q).length ≤ k := Nat.le_trans (List.length_filter_le _ _) (List.length_take_le _ _)
    clear hva hvb hab
    by_cases hlt : k < L.length
    · obtain ⟨q, hq⟩ : ∃ q, q = L[k] := ⟨_, rfl⟩
      obtain ⟨hr1, hr2⟩ := HR.out q (by rw [hq]; exact List.getElem_mem hlt)
      have HLA := Lib.hid (step_late hlt (rlate now wait)); have HLB := Lib.hid (step_late hlt fun q => !rlate now wait q)
      obtain ⟨g, cap, ho1, hgl, _, _, d0, d1⟩ := H.out.at hlt
      injection ho1 with ho1 _ ho2
      subst ho1
      subst ho2
      rw [← hq] at HLA HLB d0 d1
      have d0 := (hB.cell (p := ⟨g, k * 2, none⟩) hgl).trans d0
      have d1 := (hB.cell (p := ⟨g, k * 2 + 1, none⟩) hgl).trans d1
      obtain ⟨q1, q2⟩ := q
      simp only at d0 d1 hr1 hr2
      obtain ⟨na, hna⟩ : ∃ na, na = ((L.take k).filter (rlate now wait)).length := ⟨_, rfl⟩
      obtain ⟨nb, hnb⟩ : ∃ nb, nb = ((L.take k).filter fun q => !rlate now wait q).length := ⟨_, rfl⟩
      rw [← hna] at HVA HAB l1 ⊢
      rw [← hnb] at HVB HAB l2 ⊢
      have HNA := Lib.hid hna; have HNB := Lib.hid hnb
      clear hB hq hna hnb
      cases hl : rlate now wait (q1, q2) with
      | true =>
        obtain ⟨hw1, hge⟩ : 1 ≤ wait ∧ wait ≤ now - q2 := by simpa [rlate, late] using hl
        have e1 : decide ((1 : Int) ≤ wait) = true := decide_eq_true hw1
        have e2 : decide (wait ≤ now - q2) = true := decide_eq_true hge
        rw [hl] at HLA HLB
        clear hl
        go_wp2_with (at_builtin; refine wpList_append_at _ rfl (.tmp 35) (.tmp 44) 37 rfl w.heap.size 3 i0 (.int .i64 0) 1 8 Try.underlying37 hi y0 y1 y2 rfl (by decide) (.slice aa na ac) na (intCells (((L.take k).filter (rlate now wait)).map (·.1))) rfl (HVA.out.alloc _) ⟨wr.heap.size, 0, none⟩ 1 1 [.int .i64 q1] rfl rfl ?g1 ?g2 ?g3 ?g4 ?g5 ?_)
        case g2 => first | rfl | (intro u hu; simp at hu; rcases hu with rfl; rfl)
        case g3 => first | omega | (unfold maxLen; omega)
        case g4 => omega
        case g5 => first | omega | (simp; omega)
        intro v1 w1 hO1 hg1 hnew
        have hB1 := below_grown (HB.out.alloc hz (.cells #[.int .i64 q1] 3)) (by simp; omega) hg1 (fun k hk => (HVA.out.lt k hk).1)
        have hVB1 := (HVB.out.alloc (.cells #[.int .i64 q1] 3)).kept hg1 (ne_some HAB.out)
        have hAB1 : ∀ j, v1.ownBlock = some j → (Value.slice ba nb bc).ownBlock ≠ some j := fun j hj hb => (hnew j hj).elim (fun h => HAB.out j h hb) (fun h => by have := (HVB.out.lt j hb).2; first | (rw [World.size_alloc] at h; omega) | omega)
        have HO1 := Lib.hid hO1; have HVB1 := Lib.hid hVB1; have HAB1 := Lib.hid hAB1; have HB1 := Lib.hid hB1
        clear hO1 hg1 hnew hVB1 hAB1 hB1 HVA HVB HAB HB c1 f1
        go_wp2_with fail
        go_roundw
        case rel =>
          have ea : (L.take (k + 1)).filter (rlate now wait) = (L.take k).filter (rlate now wait) ++ [(q1, q2)] := by have := HLA.out; simpa using this
          have eb : ((L.take (k + 1)).filter fun q => !rlate now wait q) = (L.take k).filter fun q => !rlate now wait q := by have := HLB.out; simpa using this
          refine ⟨k + 1, by omega, by go_num, ?_, ?_, HAB1.out, HB1.out⟩
          · rw [ea, List.length_append, List.map_append, intCells_append, ← HNA.out]; exact HO1.out
          · rw [eb, ← HNB.out]; exact HVB1.out
        case measure => simp [intOf]; omega
      | false =>
        have HCOND := Lib.hid (show ¬ (1 ≤ wait ∧ wait ≤ now - q2) by simpa [rlate, late] using hl)
        rw [hl] at HLA HLB
        clear hl
        have hcases : (decide ((1 : Int) ≤ wait) = true ∧ decide (wait ≤ now - q2) = false) ∨ decide ((1 : Int) ≤ wait) = false := by
          by_cases hw1 : 1 ≤ wait
          · exact .inl ⟨decide_eq_true hw1, decide_eq_false (fun e => HCOND.out ⟨hw1, e⟩)⟩
          · exact .inr (decide_eq_false hw1)
        rcases hcases with ⟨e1, e2⟩ | e1
        · go_wp2_with (at_builtin; refine wpList_append_at _ rfl (.tmp 46) (.tmp 54) 42 rfl w.heap.size 46 j0 (.agg #[.int .i64 0, .int .i64 0]) 2 16 Try.underlying42 hj z0 z1 z2 rfl (by decide) (.slice ba nb bc) nb (waitCells ((L.take k).filter fun q => !rlate now wait q)) rfl (HVB.out.alloc _) ⟨wr.heap.size, 0, none⟩ 1 1 [.int .i64 q1, .int .i64 q2] rfl rfl ?a1 ?a2 ?a3 ?a4 ?a5 ?_)
          case a2 => first | exact ⟨rfl, rfl⟩ | (intro u hu; simp at hu; rcases hu with rfl | rfl <;> rfl)
          case a3 => first | omega | (unfold maxLen; omega)
          case a4 => omega
          case a5 => first | omega | (simp; omega)
          intro v1 w1 hO1 hg1 hnew
          obtain ⟨H1, H2, H3, H4⟩ := next_false HVA.out HVB.out HAB.out HB.out hz hg1 hnew
          have HO1 := Lib.hid hO1; have HVA1 := Lib.hid H1; have HAB1 := Lib.hid H2; have HB1 := Lib.hid H3
          clear hO1 hg1 hnew H1 H2 H3 H4 HVA HVB HAB HB c1 f1
          go_wp2_with fail
          go_roundw
          case rel =>
            obtain ⟨ea, eb⟩ := late_false HLA.out HLB.out
            refine ⟨k + 1, by omega, by go_num, ?_, ?_, HAB1.out, HB1.out⟩
            · rw [ea, ← HNA.out]; exact HVA1.out
            · rw [eb, List.length_append, waitCells_snoc, ← HNB.out]; exact HO1.out
          case measure => simp [intOf]; omega
        · go_wp2_with (at_builtin; refine wpList_append_at _ rfl (.tmp 46) (.tmp 54) 42 rfl w.heap.size 46 j0 (.agg #[.int .i64 0, .int .i64 0]) 2 16 Try.underlying42 hj z0 z1 z2 rfl (by decide) (.slice ba nb bc) nb (waitCells ((L.take k).filter fun q => !rlate now wait q)) rfl (HVB.out.alloc _) ⟨wr.heap.size, 0, none⟩ 1 1 [.int .i64 q1, .int .i64 q2] rfl rfl ?b1 ?b2 ?b3 ?b4 ?b5 ?_)
          case b2 => first | exact ⟨rfl, rfl⟩ | (intro u hu; simp at hu; rcases hu with rfl | rfl <;> rfl)
          case b3 => first | omega | (unfold maxLen; omega)
          case b4 => omega
          case b5 => first | omega | (simp; omega)
          intro v1 w1 hO1 hg1 hnew
          obtain ⟨H1, H2, H3, H4⟩ := next_false HVA.out HVB.out HAB.out HB.out hz hg1 hnew
          have HO1 := Lib.hid hO1; have HVA1 := Lib.hid H1; have HAB1 := Lib.hid H2; have HB1 := Lib.hid H3
          clear hO1 hg1 hnew H1 H2 H3 H4 HVA HVB HAB HB c1 f1
          go_wp2_with fail
          go_roundw
          case rel =>
            obtain ⟨ea, eb⟩ := late_false HLA.out HLB.out
            refine ⟨k + 1, by omega, by go_num, ?_, ?_, HAB1.out, HB1.out⟩
            · rw [ea, ← HNA.out]; exact HVA1.out
            · rw [eb, List.length_append, waitCells_snoc, ← HNB.out]; exact HO1.out
          case measure => simp [intOf]; omega
    · obtain rfl : k = L.length := by omega
      rw [List.take_length] at HVA HVB HAB ⊢
      obtain ⟨hQ, hK⟩ := ref_end (w := w) (w1 := wr) H.out (own_zero HVB.out) (hB.block p hp) (fun j hj _ => hB.block j hj) ⟨hB.os, hB.tape, hB.output, hz⟩ (fun j hj => .inr (HVB.out.lt j hj).1)
      have hU : (wr.setCell ⟨p, 1, none⟩ (.slice ba (L.filter fun q => !rlate now wait q).length bc)).ownsRow w.heap.size 3 1 (.slice aa (L.filter (rlate now wait)).length ac) (L.filter (rlate now wait)).length (intCells ((L.filter (rlate now wait)).map (·.1))) := by
        refine HVA.out.kept (row := some p) ⟨rfl, rfl, rfl, by simp [World.setCell], fun j hj hne => Below.heap_setCell _ _ _ _ (fun e => hne (by rw [e]))⟩ ?_
        refine ne_some2 (b := some p) fun j hj e => ?_
        have := (HVA.out.lt j hj).1
        simp at e
        omega
      have HQ := Lib.hid hQ; have HK := Lib.hid hK; have HU := Lib.hid hU
      clear hQ hK hU HVA HVB HAB HB hB
      go_wp2_with fail
      go_ret
      exact ⟨_, _, rfl, own_holdsI (by rw [List.length_map]; exact HU.out), HQ.out, HK.out⟩
end Go.Proofs.Ytcklfdpmggoafaa
