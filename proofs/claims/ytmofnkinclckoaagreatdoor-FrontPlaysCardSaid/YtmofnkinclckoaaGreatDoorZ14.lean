/- Contracts and mathematics: DPairs, DFlds, DVal. -/
import Derived.Test.YtmofnkinclckoaaGreatDoorZ13
namespace Go.Proofs.YtmofnkinclckoaaGreatDoor
open Go.RowKit Go.Lib Go.WideShapes

theorem row_rel_next {f : RS → Option RS} (hf : ∀ s s', f s = some s' → s'.S.length < s.S.length) {s x x' : RS} {j : Nat} {b : UInt8} {r : Bs} (h : rowN f s = (rowN f x).map fun p => (p.1 + j, p.2)) (hS : x.S = b :: r) (hb : b ≠ 0) (hx : f x = some x') : rowN f s = (rowN f x').map fun p => (p.1 + (j + 1), p.2) := by
  rw [h, rowN_next hf hS hb, hx]
  simp only [Option.bind_some]
  cases rowN f x' with
  | none => rfl
  | some p => simp only [Option.map_some]; rw [show p.1 + 1 + j = p.1 + (j + 1) by omega]
theorem row_rel_none {f : RS → Option RS} (hf : ∀ s s', f s = some s' → s'.S.length < s.S.length) {s x : RS} {j : Nat} {b : UInt8} {r : Bs} (h : rowN f s = (rowN f x).map fun p => (p.1 + j, p.2)) (hS : x.S = b :: r) (hb : b ≠ 0) (hx : f x = none) : rowN f s = none := by
  rw [h, rowN_next hf hS hb, hx]; rfl
theorem row_rel_end {f : RS → Option RS} {s x : RS} {j : Nat} {r : Bs} (h : rowN f s = (rowN f x).map fun p => (p.1 + j, p.2)) (hS : x.S = 0 :: r) : rowN f s = some (j, { x with S := r }) := by
  rw [h, rowN_end hS]; simp
theorem row_rel_nil {f : RS → Option RS} {s x : RS} {j : Nat} (h : rowN f s = (rowN f x).map fun p => (p.1 + j, p.2)) (hS : x.S = []) : rowN f s = none := by
  rw [h, rowN_nil hS]; rfl

set_option maxRecDepth 100000 in
set_option maxHeartbeats 8000000 in
theorem pairs_r (w0 w : World) (s : RS) (hl : droom s ≤ 850000) (h : IsD w0 w s) :
    Calls Tryz.prog 52 #[.pointer (some ⟨w0.heap.size, 0, none⟩)] w (DOut w0 (rPairs s)) := by
  obtain ⟨RT, hRT⟩ : ∃ RT, RT = rPairs s := ⟨_, rfl⟩
  rw [← hRT]
  have HRT := Lib.hid (show RT = (rowN rText s).bind fun p => if p.1 % 2 = 0 then some (rKeep p.1 p.2) else none from hRT)
  have H := Lib.hid h
  clear hRT h
  go_enter Tryz.func52, Tryz.ntmps52
  go_wp2_with fail
  go_loopg [2] s.S.length (fun g n wr => ∃ (j : Nat) (x : RS), n = .int .i64 j ∧ g = x.S.length ∧ j + x.S.length ≤ s.S.length ∧ droom x ≤ 850000 ∧ rowN rText s = (rowN rText x).map (fun p => (p.1 + j, p.2)) ∧ IsD w0 wr x)
  case atStart => exact ⟨0, s, rfl, rfl, by omega, hl, by cases rowN rText s <;> rfl, H.out⟩
  case round =>
    obtain ⟨j, x, rfl, hg, hjx, hrx, hrow, hI⟩ := hrel
    have HG := Lib.hid hg; have HROW := Lib.hid hrow; have HI := Lib.hid hI
    have hjl : j ≤ 1000000 := by unfold droom at hl; omega
    have hSx : x.S.length ≤ 1000000 := by unfold droom at hrx; omega
    clear hg hrow hI
    go_wp2_with fail
    refine (last_any w0 wr x hSx HI.out).mono ?_; rintro e w1 (⟨r, hS, rfl, hI⟩ | ⟨b, r, hS, hb, rfl, hI⟩ | ⟨hS, rfl, hB⟩)
    · have HE := Lib.hid (row_rel_end HROW.out hS)
      have HI1 := Lib.hid hI
      have hN1 : x.N.length ≤ 1000000 := by unfold droom at hrx; omega
      have hmod : (j : Int).tmod 2 = (j : Int) % 2 := Int.tmod_eq_emod_of_nonneg (by omega)
      clear hS hI
      by_cases hp : j % 2 = 0
      · have hp' : ((j : Int) % 2 == 0) = true := by rw [beq_iff_eq]; omega
        have HZ := Lib.hid (show RT = some (rKeep j { x with S := r }) by rw [HRT.out, HE.out]; simp only [Option.bind_some]; rw [if_pos hp])
        clear hp
        go_wp2_with fail
        refine (demand_ok _).mono ?_; rintro e w2 ⟨rfl, rfl⟩
        go_wp2_with fail
        refine (keep_any w0 _ { x with S := r } j hN1 HI1.out).mono ?_; rintro e w3 (⟨s2, h2, rfl, hI⟩ | ⟨h2, _, _⟩)
        case inr => cases h2
        obtain rfl := Option.some.inj h2
        have HI2 := Lib.hid hI
        clear hI h2
        go_wp2_with fail
        go_end0
        exact .inl ⟨_, HZ.out, rfl, HI2.out⟩
      · have hp' : ((j : Int) % 2 == 0) = false := by rw [beq_eq_false_iff_ne]; omega
        have HZ := Lib.hid (show RT = none by rw [HRT.out, HE.out]; simp only [Option.bind_some]; rw [if_neg hp])
        clear hp
        go_wp2_with fail
        refine (demand_no _).mono ?_; rintro e w2 ⟨rfl, rfl⟩
        go_wp2_with fail
        obtain ⟨_, _, hD⟩ := HI1.out
        exact ⟨rfl, .inr ⟨HZ.out, rfl, hD.below⟩⟩
    · have HS := Lib.hid hS; have HB := Lib.hid hb; have HI1 := Lib.hid hI
      clear hS hb hI
      go_wp2_with fail
      refine (text_r w0 w1 x (by omega) HI1.out).mono ?_; rintro e w2 (⟨x', hx, rfl, hI⟩ | ⟨hx, rfl, hB⟩)
      · have HN := Lib.hid (row_rel_next (fun s s' h => (dtext_room h).2) HROW.out HS.out HB.out hx)
        have hd := dtext_room hx
        have hd1 := hd.1
        have hd2 := hd.2
        have HI2 := Lib.hid hI
        clear hx hd hI
        go_wp2_with fail
        go_roundg x'.S.length
        case measure => have := HG.out; omega
        case rel => exact ⟨j + 1, x', by go_num, rfl, by omega, by omega, HN.out, HI2.out⟩
      · have HN := Lib.hid (row_rel_none (fun s s' h => (dtext_room h).2) HROW.out HS.out HB.out hx)
        clear hx
        go_wp2_with fail
        exact ⟨rfl, .inr ⟨HRT.out.trans (by rw [HN.out]; rfl), rfl, hB⟩⟩
    · have HN := Lib.hid (row_rel_nil HROW.out hS)
      clear hS
      go_wp2_with fail
      exact ⟨rfl, .inr ⟨HRT.out.trans (by rw [HN.out]; rfl), rfl, hB⟩⟩
end Go.Proofs.YtmofnkinclckoaaGreatDoor

namespace Go.Proofs.YtmofnkinclckoaaGreatDoor
open Go.RowKit Go.Lib Go.WideShapes

theorem setL_one (xs : List Value) (o : Nat) (v : Value) : setL xs o [v] = xs.set o v := rfl
theorem ncells_set (N : List Int) (i : Nat) (n : Int) : (ncells N).set i (.int .i64 n) = ncells (N.set i n) := by
  unfold ncells; rw [List.map_set]
/-- A number of the row written anew. -/
theorem DAt.setN {w0 w : World} {s : RS} {tv : Value} {g c k : Nat} (h : DAt w0 w s tv (.slice (some ⟨g, 0, none⟩) k c)) (hk : s.N.length = k) (i : Nat) (n : Int) : DAt w0 (w.setCell ⟨g, i, none⟩ (.int .i64 n)) { s with N := s.N.set i n } tv (.slice (some ⟨g, 0, none⟩) k c) := by
  have hr := own_room (by have := h.nums; rw [hk] at this; exact this)
  have hg : w0.heap.size + 1 ≤ g := hr.2.2.1
  have hN : w.ownsRow (w0.heap.size + 1) 3 1 (.slice (some ⟨g, 0, none⟩) k c) k (ncells s.N) := by have := h.nums; rw [hk] at this; exact this
  obtain ⟨h1, h2⟩ := own_stored hN [.int .i64 n] i
  rw [setL_one, ncells_set] at h1
  have k0 : ∀ j, (⟨g, i, none⟩ : Addr) ≠ ⟨w0.heap.size, j, none⟩ := by
    intro j e
    injection e with e1 _ _
    omega
  have hT : (w.setCell ⟨g, i, none⟩ (.int .i64 n)).ownsRow (w0.heap.size + 1) 9 1 tv s.T.length (tcells s.T) :=
    h.texts.kept h2 (own_apart hN h.texts string_ne_int.symm)
  exact ⟨h.below.setCell (by show w0.heap.size ≤ g; omega) _, by rw [World.size_setCell]; exact h.lt, (World.cell?_setCell_other _ _ _ _ (k0 0)).trans h.c0, (World.cell?_setCell_other _ _ _ _ (k0 1)).trans h.c1, (World.cell?_setCell_other _ _ _ _ (k0 2)).trans h.c2, by rw [World.frozen?_setCell]; exact h.f0, by rw [World.frozen?_setCell]; exact h.f1, by rw [World.frozen?_setCell]; exact h.f2, hT, by
    show (w.setCell ⟨g, i, none⟩ (.int .i64 n)).ownsRow _ _ 1 _ (s.N.set i n).length (ncells (s.N.set i n))
    rw [List.length_set, hk]
    exact h1⟩

set_option maxRecDepth 100000 in
set_option maxHeartbeats 8000000 in
theorem fields_r (w0 w : World) (s : RS) (hl : droom s ≤ 850000) (h : IsD w0 w s) :
    Calls Tryz.prog 53 #[.pointer (some ⟨w0.heap.size, 0, none⟩)] w (DOut w0 (rFields s)) := by
  obtain ⟨RT, hRT⟩ : ∃ RT, RT = rFields s := ⟨_, rfl⟩
  rw [← hRT]
  have HRT := Lib.hid (show RT = (rowN rItem (rKeep 0 s)).map fun p => { p.2 with N := p.2.N.set s.N.length p.1 } from hRT)
  have HRI := Lib.hid (fun s s' (h : rItem s = some s') => (ditem_room h).2)
  obtain ⟨tv0, nv0, hD0⟩ := h
  obtain ⟨a0, c0', rfl⟩ := ownsRow_form hD0.nums
  have c2 := hD0.c2
  have H := Lib.hid (show IsD w0 w s from ⟨_, _, hD0⟩)
  have hN0 : s.N.length ≤ 1000000 := by unfold droom at hl; omega
  obtain ⟨NL, hNL⟩ : ∃ NL : Nat, NL = s.N.length := ⟨_, rfl⟩
  have HNL := Lib.hid hNL
  rw [← hNL] at c2 HRT
  have hNLb : NL ≤ 1000000 := by rw [hNL]; exact hN0
  have hk0 := keep_room 0 s
  have HS0 := Lib.hid (show droom (rKeep 0 s) ≤ 850001 ∧ (rKeep 0 s).S.length ≤ 1000000 ∧ NL < (rKeep 0 s).N.length by
    refine ⟨by omega, by show s.S.length ≤ _; unfold droom at hl; omega, ?_⟩
    show NL < (s.N ++ [0]).length
    rw [List.length_append, List.length_singleton]; omega)
  clear hRT hD0 hNL hk0 hl
  go_enter Tryz.func53, Tryz.ntmps53
  go_wp2_with fail
  refine (keep_any w0 w s 0 hN0 H.out).mono ?_; rintro e w1 (⟨s2, h2, rfl, hI⟩ | ⟨h2, _, _⟩)
  case inr => cases h2
  obtain rfl := Option.some.inj h2
  generalize rKeep 0 s = s0 at hI HRT HS0
  have HI0 := Lib.hid hI
  clear hI h2 c2
  go_wp2_with fail
  go_loopg [3] s0.S.length (fun g n wr => ∃ (j : Nat) (x : RS), n = .int .i64 j ∧ g = x.S.length ∧ j + x.S.length ≤ s0.S.length ∧ droom x ≤ 850001 ∧ NL < x.N.length ∧ rowN rItem s0 = (rowN rItem x).map (fun p => (p.1 + j, p.2)) ∧ IsD w0 wr x)
  case atStart => exact ⟨0, s0, rfl, rfl, by omega, HS0.out.1, HS0.out.2.2, by cases rowN rItem s0 <;> rfl, HI0.out⟩
  case round =>
    obtain ⟨j, x, rfl, hg, hjx, hrx, hnx, hrow, hI⟩ := hrel
    have HG := Lib.hid hg; have HROW := Lib.hid hrow; have HI := Lib.hid hI
    have hjl : j ≤ 1000000 := by have := HS0.out.2.1; omega
    have hSx : x.S.length ≤ 1000000 := by unfold droom at hrx; omega
    clear hg hrow hI
    go_wp2_with fail
    refine (last_any w0 wr x hSx HI.out).mono ?_; rintro e w1 (⟨r, hS, rfl, hI⟩ | ⟨b, r, hS, hb, rfl, hI⟩ | ⟨hS, rfl, hB⟩)
    · have HE := Lib.hid (row_rel_end HROW.out hS)
      have HZ := Lib.hid (show RT = some { ({ x with S := r } : RS) with N := x.N.set NL j } by rw [HRT.out, HE.out]; rfl)
      have hN1 : x.N.length ≤ 1000000 := by unfold droom at hrx; omega
      obtain ⟨tv, nv, hD⟩ := hI
      obtain ⟨XL, hXL⟩ : ∃ XL : Nat, XL = x.N.length := ⟨_, rfl⟩
      have hnumsX : w1.ownsRow (w0.heap.size + 1) 3 1 nv XL (ncells x.N) := by rw [hXL]; exact hD.nums
      obtain ⟨g, c, rfl⟩ : ∃ g c, nv = .slice (some ⟨g, 0, none⟩) XL c := by
        rcases hnumsX.2 with ⟨_, h0⟩ | ⟨g, cap, cur, hv, _⟩
        · exfalso; omega
        · exact ⟨g, cap, hv⟩
      have hroom := own_room hnumsX
      have c2 := hD.c2
      have hlt : (NL : Int) < XL := by omega
      have hcell : ∃ v, w1.cell? ⟨g, NL, none⟩ = some v := Option.isSome_iff_exists.1 (hroom.2.2.2.2.2.2 NL (by omega))
      obtain ⟨v, hcell⟩ := hcell
      have hfr := hroom.2.2.2.2.2.1 NL
      have hcap : XL ≤ c := hroom.1
      have HP := Lib.hid (hD.setN (s := { x with S := r }) hXL.symm NL j)
      have HXL := Lib.hid hXL
      clear hS hD hnumsX hroom hXL hnx
      go_wp2_with fail
      go_end0
      exact .inl ⟨_, HZ.out, rfl, _, _, HP.out⟩
    · have HS := Lib.hid hS; have HB := Lib.hid hb; have HI1 := Lib.hid hI
      have HU := Lib.hid (unsigned_any w0 w1 x 1 (by decide) hSx hI)
      have HIT := Lib.hid (show rItem x = ((rUnsigned 1 x).map fun p => rKeep p.1 p.2).bind rText from rfl)
      have HUO := Lib.hid (show ∀ n s', rUnsigned 1 x = some (n, s') → s'.S.length + 1 = x.S.length ∧ droom s' + 1 = droom x ∧ s'.N = x.N from by
        intro n s' e
        unfold rUnsigned at e
        cases hy : rTake 1 x with
        | none => rw [hy] at e; cases e
        | some p =>
          obtain ⟨b, s1⟩ := p
          rw [hy] at e
          simp only [Option.map_some, Option.some.injEq, Prod.mk.injEq] at e
          obtain ⟨_, rfl⟩ := e
          exact ⟨(dtake_room hy).1, (dtake_room hy).2, (take_out hy).2.2.2⟩)
      clear hS hb hI
      go_wp2_with fail
      generalize rUnsigned 1 x = U at HU HIT HUO
      refine HU.out.mono ?_; rintro e w2 (⟨n, s1, rfl, rfl, hI⟩ | ⟨rfl, rfl, hB⟩)
      · obtain ⟨h1, h2, h3⟩ := HUO.out n s1 rfl
        have HI2 := Lib.hid hI
        have hN1 : s1.N.length ≤ 1000000 := by unfold droom at hrx h2; omega
        have hk := keep_room n s1
        have HNX := Lib.hid (show NL < (rKeep n s1).N.length by
          show NL < (s1.N ++ [n]).length
          rw [h3, List.length_append, List.length_singleton]; omega)
        have hd2 : droom (rKeep n s1) ≤ 850001 := by omega
        have HSS := Lib.hid (show (rKeep n s1).S.length + 1 = x.S.length from h1)
        have HIT := Lib.hid (show rItem x = rText (rKeep n s1) from HIT.out)
        clear hI h1 h2 h3 hk HUO
        go_wp2_with fail
        refine (keep_any w0 w2 s1 n hN1 HI2.out).mono ?_; rintro e w3 (⟨s2, h2, rfl, hI⟩ | ⟨h2, _, _⟩)
        case inr => cases h2
        obtain rfl := Option.some.inj h2
        generalize rKeep n s1 = s2 at hI HNX hd2 HSS HIT
        have HI3 := Lib.hid hI
        clear hI h2
        go_wp2_with fail
        refine (text_r w0 w3 s2 (by omega) HI3.out).mono ?_; rintro e w4 (⟨x', hx, rfl, hI⟩ | ⟨hx, rfl, hB⟩)
        · have HN := Lib.hid (row_rel_next HRI.out HROW.out HS.out HB.out (HIT.out.trans hx))
          have hd := dtext_room hx
          have hd1 := hd.1
          have hd3 := hd.2
          have HNN := Lib.hid (show x'.N = s2.N by obtain ⟨_, _, _, _, e⟩ := text_out hx; exact e)
          have HI4 := Lib.hid hI
          clear hx hd hI
          go_wp2_with fail
          go_roundg x'.S.length
          case measure => have := HG.out; have := HSS.out; omega
          case rel => exact ⟨j + 1, x', by go_num, rfl, by have := HSS.out; omega, by omega, by rw [HNN.out]; exact HNX.out, HN.out, HI4.out⟩
        · have HN := Lib.hid (row_rel_none HRI.out HROW.out HS.out HB.out (HIT.out.trans hx))
          clear hx
          go_wp2_with fail
          exact ⟨rfl, .inr ⟨HRT.out.trans (by rw [HN.out]; rfl), rfl, hB⟩⟩
      · have HN := Lib.hid (row_rel_none HRI.out HROW.out HS.out HB.out (show rItem x = none from HIT.out))
        go_wp2_with fail
        exact ⟨rfl, .inr ⟨HRT.out.trans (by rw [HN.out]; rfl), rfl, hB⟩⟩
    · have HN := Lib.hid (row_rel_nil HROW.out hS)
      clear hS
      go_wp2_with fail
      exact ⟨rfl, .inr ⟨HRT.out.trans (by rw [HN.out]; rfl), rfl, hB⟩⟩
end Go.Proofs.YtmofnkinclckoaaGreatDoor

namespace Go.Proofs.YtmofnkinclckoaaGreatDoor
open Go.RowKit Go.Lib Go.WideShapes

theorem take_no {w0 w : World} {s : RS} {tv nv : Value} {n : Nat} (hr : rTake n s = none) (hl : s.S.length ≤ 1000000) (hW : DAt w0 w s tv nv) :
    Calls Tryz.prog 75 #[.pointer (some ⟨w0.heap.size, 0, none⟩), .int .i64 n] w (Lost w0) := by
  refine (take_at w0 w s tv nv n hl hW).mono ?_
  rintro e w' (⟨b', s', h1, h2, h3⟩ | ⟨h1, h2⟩)
  · rw [hr] at h1; cases h1
  · exact h2

set_option maxRecDepth 100000 in
set_option maxHeartbeats 8000000 in
theorem value_r (w0 w : World) (s : RS) (hl : droom s ≤ 900000) (h : IsD w0 w s) :
    Calls Tryz.prog 56 #[.pointer (some ⟨w0.heap.size, 0, none⟩)] w (DOut w0 (rValue s)) := by
  obtain ⟨i0, hi, y0, y1, y2⟩ := info_parts info_str
  have HS := Lib.hid (signed_four w0 w s (by unfold droom at hl; omega) h)
  have HSR := Lib.hid (fun n s' => signed_room (k := 4) (s := s) (n := n) (s' := s'))
  unfold rValue
  generalize rSigned 4 s = R at HS HSR ⊢
  clear h
  cases R with
  | none =>
    go_enter Tryz.func56, Tryz.ntmps56
    go_wp2_with fail
    refine HS.out.mono ?_; rintro e w1 (⟨_, _, h, _⟩ | ⟨_, rfl, hB⟩)
    · cases h
    · go_wp2_with fail
      exact ⟨rfl, .inr ⟨rfl, rfl, hB⟩⟩
  | some p =>
    obtain ⟨n, s1⟩ := p
    have hr1 := (HSR.out n s1 rfl).2
    have hl1 : droom s1 ≤ 900000 := by omega
    have hN1 : s1.N.length ≤ 1000000 := by unfold droom at hl1; omega
    obtain ⟨RT, hRT⟩ : ∃ RT, RT = (some (n, s1)).bind fun p => if -1 ≤ p.1 ∧ p.1 ≤ 10000 then (if p.1 < 0 then some (rKeep p.1 p.2) else rRaw p.1 (rKeep p.1 p.2)) else none := ⟨_, rfl⟩
    rw [← hRT]
    simp only [Option.bind_some] at hRT
    clear hr1 HSR
    by_cases hrg : -1 ≤ n ∧ n ≤ 10000
    · rw [if_pos hrg] at hRT
      have HRT := Lib.hid hRT
      obtain ⟨hg1, hg2⟩ := hrg
      clear hRT
      go_enter Tryz.func56, Tryz.ntmps56
      go_wp2_with fail
      refine HS.out.mono ?_; rintro e w1 (⟨n', s1', h, rfl, hI⟩ | ⟨h, _, _⟩)
      case inr => cases h
      obtain ⟨rfl, rfl⟩ := Prod.mk.inj (Option.some.inj h)
      have HI := Lib.hid hI
      clear hI h
      go_wp2_with fail
      refine (demand_ok _).mono ?_; rintro e w2 ⟨rfl, rfl⟩
      go_wp2_with fail
      refine (keep_any w0 _ s1 n hN1 HI.out).mono ?_; rintro e w3 (⟨s2, h2, rfl, hI⟩ | ⟨h2, _, _⟩)
      case inr => cases h2
      obtain rfl := Option.some.inj h2
      have HI3 := Lib.hid hI
      have hk := keep_room n s1
      have hl2 : droom (rKeep n s1) ≤ 900001 := by omega
      clear hI h2 hk
      by_cases hn : n < 0
      · have hn' : ¬ 0 ≤ n := by omega
        have HZ := Lib.hid (HRT.out.trans (if_pos hn))
        go_wp2_with fail
        go_end0
        exact .inl ⟨_, HZ.out, rfl, HI3.out⟩
      · have hn' : 0 ≤ n := by omega
        have HZ := Lib.hid (HRT.out.trans (if_neg hn))
        obtain ⟨m, rfl⟩ := Int.eq_ofNat_of_zero_le hn'
        have HZ := Lib.hid (show RT = (rTake m (rKeep (m : Int) s1)).map fun p => { p.2 with T := p.2.T ++ [p.1] } from HZ.out)
        generalize rKeep (m : Int) s1 = s2 at HI3 hl2 HZ
        obtain ⟨tv, nv, hD⟩ := HI3.out
        have hSl : s2.S.length ≤ 1000000 := by unfold droom at hl2; omega
        have hTl : s2.T.length ≤ 1000000 := by unfold droom at hl2; omega
        have HD := Lib.hid hD
        clear hD hn
        cases hx : rTake m s2 with
        | none =>
          have HTN := Lib.hid (fun W (hD : DAt w0 W s2 tv nv) => take_no hx hSl hD)
          have HZ := Lib.hid (show RT = none by rw [HZ.out, hx]; rfl)
          have c1 := HD.out.c1
          obtain ⟨a, c, rfl⟩ := ownsRow_form HD.out.texts
          clear hx
          go_upto_region 4 with (fail)
          go_region_law (go_simp; go_at_call 75; refine (HTN.out _ HD.out.drew).mono ?_; rintro e w5 ⟨rfl, hB⟩; (refine (fun (_ : wpAny Tryz.prog .any #[] (fun _ _ _ => True) 0 #[] { tmps := #[], defers := [] } w5) => ⟨rfl, .inr ⟨HZ.out, rfl, hB⟩⟩) ?_))
          all_goals trivial
        | some p =>
          obtain ⟨t, s3⟩ := p
          have HTK := Lib.hid (fun W (hD : DAt w0 W s2 tv nv) => take_is hx hSl hD)
          have HZ := Lib.hid (show RT = some { s3 with T := s3.T ++ [t] } by rw [HZ.out, hx]; rfl)
          have hT3 : s3.T.length = s2.T.length := by rw [(take_out hx).2.2.1]
          have c1 := HD.out.c1
          obtain ⟨a, c, rfl⟩ := ownsRow_form HD.out.texts
          obtain ⟨TL, hTL⟩ : ∃ TL : Nat, TL = s3.T.length := ⟨_, rfl⟩
          have HTL := Lib.hid hTL
          rw [← hT3, ← hTL] at HTK HD c1 hTl
          clear hTL hx hT3
          go_upto_region 4 with (fail)
          go_region_law (first | (go_simp; go_at_call 75; refine (HTK.out _ HD.out.drew).mono ?_; rintro e w5 ⟨rfl, hW5⟩; have HW5 := Lib.hid hW5; have d1 := hW5.c1; have g1 := hW5.f1; have z5 := hW5.lt; clear hW5) | (refine step_append_own rfl (.tmp 21) (.tmp 25) 22 rfl (w0.heap.size + 1) 9 i0 (.string { data := #[] }) 1 16 Tryz.underlying22 hi y0 y1 y2 rfl (by decide) (.slice a TL c) TL (tcells s3.T) (by simp [Act.eval]) (by have := HW5.out.texts.alloc (.cells #[.string ⟨t.toArray⟩] 9); rw [← HTL.out] at this; exact this) ⟨w5.heap.size, 0, none⟩ 1 1 [.string ⟨t.toArray⟩] (by simp [Act.eval]) rfl ?c1 ?c2 ?c3 ?c4 ?c5 ?_; (case c1 => (intro j u h; rw [Go.WideShapes.add_plain, Nat.zero_add, ← h]; exact (World.cell?_alloc_new w5 _ _ j).trans (by simp))); (case c2 => (intro u hu; simp at hu; rcases hu with rfl; rfl)); (case c3 => (unfold maxLen; omega)); (case c4 => omega); (case c5 => (first | omega | (simp; omega))); intro v' w6 hO6 hg6; obtain ⟨a', c', rfl⟩ := ownsRow_form hO6; have HB6 := Lib.hid (HW5.out.grewT hg6); obtain ⟨_, ⟨e2, g2⟩, hz6⟩ := HW5.out.afterN HB6.out; have HP6 := Lib.hid (HW5.out.put1 (T := s3.T ++ [t]) HB6.out (by rw [tcells_append, List.length_append, ← HTL.out]; exact hO6) (HW5.out.rowN hg6)); clear hO6 hg6))
          all_goals
            go_wp2_with fail
            go_end0
            exact .inl ⟨_, HZ.out, rfl, _, _, HP6.out⟩
    · rw [if_neg hrg] at hRT
      have HRT := Lib.hid hRT
      clear hRT
      by_cases h1 : -1 ≤ n
      · have h2 : 10000 < n := by omega
        have h3 : ¬ n ≤ 10000 := by omega
        have h4 : decide (n ≤ 10000) = false := decide_eq_false h3
        clear hrg
        go_enter Tryz.func56, Tryz.ntmps56
        go_wp2_with fail
        refine HS.out.mono ?_; rintro e w1 (⟨n', s1', h, rfl, hI⟩ | ⟨h, _, _⟩)
        case inr => cases h
        obtain ⟨rfl, rfl⟩ := Prod.mk.inj (Option.some.inj h)
        have HI := Lib.hid hI
        clear hI h
        go_wp2_with fail
        refine (demand_no _).mono ?_; rintro e w2 ⟨rfl, rfl⟩
        go_wp2_with fail
        obtain ⟨_, _, hD⟩ := HI.out
        exact ⟨rfl, .inr ⟨HRT.out, rfl, hD.below⟩⟩
      · have h4 : decide (-1 ≤ n) = false := decide_eq_false h1
        clear hrg
        go_enter Tryz.func56, Tryz.ntmps56
        go_wp2_with fail
        refine HS.out.mono ?_; rintro e w1 (⟨n', s1', h, rfl, hI⟩ | ⟨h, _, _⟩)
        case inr => cases h
        obtain ⟨rfl, rfl⟩ := Prod.mk.inj (Option.some.inj h)
        have HI := Lib.hid hI
        clear hI h
        go_wp2_with fail
        refine (demand_no _).mono ?_; rintro e w2 ⟨rfl, rfl⟩
        go_wp2_with fail
        obtain ⟨_, _, hD⟩ := HI.out
        exact ⟨rfl, .inr ⟨HRT.out, rfl, hD.below⟩⟩
end Go.Proofs.YtmofnkinclckoaaGreatDoor
