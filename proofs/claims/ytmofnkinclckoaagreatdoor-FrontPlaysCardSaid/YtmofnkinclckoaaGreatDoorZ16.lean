/- Contracts and mathematics: DIs, DRead0, DReadnone, DReadback. -/
import Derived.Test.YtmofnkinclckoaaGreatDoorZ15
import Derived.Test.YtmofnkinclckoaaGreatDoorZ7
import Derived.Defers
import Derived.Recover
namespace Go.Proofs.YtmofnkinclckoaaGreatDoor
open Go.RowKit Go.Lib Go.WideShapes

theorem isd_new (w0 : World) (S : Bs) : IsD w0 (w0.alloc (.cells #[.string ⟨S.toArray⟩, .slice none 0 0, .slice none 0 0] 86)) ⟨S, [], []⟩ := by
  refine ⟨.slice none 0 0, .slice none 0 0, (Below.refl _ _).alloc (Nat.le_refl _) _, by rw [World.size_alloc]; exact Nat.lt_succ_self _, ?_, ?_, ?_, ?_, ?_, ?_, ⟨rfl, .inl ⟨rfl, rfl⟩⟩, ⟨rfl, .inl ⟨rfl, rfl⟩⟩⟩ <;> simp [go_sem]
theorem own_textsIn {w : World} {base : Nat} {v : Value} {T : List Bs} (h : w.ownsRow base 9 1 v T.length (tcells T)) : TextsIn w v T := by
  rcases h.2 with ⟨rfl, h0⟩ | ⟨g, cap, cur, rfl, hb, hg, hn, hm, hc, ht⟩
  · exact ⟨none, 0, 0, rfl, h0, Nat.le_refl _, by omega, .inl (List.length_eq_zero_iff.1 h0)⟩
  · refine ⟨_, T.length, cap, rfl, rfl, hn, by unfold maxLen at hm; omega, .inr ⟨g, 0, rfl, (Array.getElem?_eq_some_iff.1 hg).1, fun i t hi => ?_⟩⟩
    rw [Nat.zero_add, cell_of_row w g i cur 9 (0, 0) hg]
    have hl : i < T.length := (List.getElem?_eq_some_iff.1 hi).1
    have hu : (tcells T)[i]? = some (.string ⟨t.toArray⟩) := by simp [tcells, hi]
    rw [← ht, List.getElem?_take] at hu
    split at hu
    · simpa using hu
    · cases hu
theorem own_numsIn {w : World} {base : Nat} {v : Value} {N : List Int} (h : w.ownsRow base 3 1 v N.length (ncells N)) : NumsIn w v N := by
  rcases h.2 with ⟨rfl, h0⟩ | ⟨g, cap, cur, rfl, hb, hg, hn, hm, hc, ht⟩
  · exact ⟨none, 0, 0, rfl, h0, Nat.le_refl _, by omega, .inl (List.length_eq_zero_iff.1 h0)⟩
  · refine ⟨_, N.length, cap, rfl, rfl, hn, by unfold maxLen at hm; omega, .inr ⟨g, 0, rfl, (Array.getElem?_eq_some_iff.1 hg).1, fun i t hi => ?_⟩⟩
    rw [Nat.zero_add, cell_of_row w g i cur 3 (0, 0) hg]
    have hl : i < N.length := (List.getElem?_eq_some_iff.1 hi).1
    have hu : (ncells N)[i]? = some (.int .i64 t) := by simp [ncells, hi]
    rw [← ht, List.getElem?_take] at hu
    split at hu
    · simpa using hu
    · cases hu

set_option maxRecDepth 100000 in
set_option maxHeartbeats 4000000 in
theorem iscancel_any (w : World) (S : Bs) (hl : S.length ≤ 800000) :
    Calls Tryz.prog 36 #[.string ⟨S.toArray⟩] w fun e w' => e = .returned (.bool (isCancel S)) ∧ Below w.heap.size w w' := by
  obtain ⟨sb, hsb⟩ : ∃ sb : ByteArray, sb = ⟨S.toArray⟩ := ⟨_, rfl⟩
  have hsz : sb.size = S.length := by rw [hsb, bsize]
  have HD := Lib.hid (isd_new w S)
  rw [← hsb] at HD ⊢
  have HSZ := Lib.hid hsz
  have hsz2 : sb.size ≤ 800000 := by omega
  clear hsb
  by_cases h4 : 4 ≤ S.length
  · have h4' : (4 : Int) ≤ sb.size := by omega
    have hx : rSigned 4 ⟨S, [], []⟩ = some (sgnM 4 (unsig (S.take 4)), ⟨S.drop 4, [], []⟩) := by
      unfold rSigned rTake
      rw [if_pos h4]; rfl
    have HS := Lib.hid (signed_four w _ ⟨S, [], []⟩ (by show S.length ≤ _; omega) HD.out)
    rw [hx] at HS
    have HR := Lib.hid (show isCancel S = (sgnM 4 (unsig (S.take 4)) == 80877102) by
      unfold isCancel
      by_cases h : sgnM 4 (unsig (S.take 4)) = 80877102 <;> simp [h, h4])
    rw [HR.out]
    generalize sgnM 4 (unsig (S.take 4)) = n at HS
    clear h4 hx hsz hl
    go_enter Tryz.func36, Tryz.ntmps36
    go_wp2_with fail
    refine HS.out.mono ?_; rintro e w1 (⟨n', s1', h, rfl, hI⟩ | ⟨h, _, _⟩)
    case inr => cases h
    obtain ⟨rfl, rfl⟩ := Prod.mk.inj (Option.some.inj h)
    obtain ⟨_, _, hD⟩ := hI
    have HB := Lib.hid hD.below
    clear hD h
    go_wp2_with fail
    go_ret
    exact ⟨rfl, HB.out⟩
  · have h4' : ¬ (4 : Int) ≤ sb.size := by omega
    have h5 : decide ((4 : Int) ≤ sb.size) = false := decide_eq_false h4'
    have HR := Lib.hid (show isCancel S = false from decide_eq_false fun h => h4 h.1)
    rw [HR.out]
    clear h4 hsz hl
    go_enter Tryz.func36, Tryz.ntmps36
    go_wp2_with fail
    go_ret
    exact ⟨rfl, (Below.refl _ _).alloc (Nat.le_refl _) _⟩

theorem catch_read (b c : Nat) (x0 x1 x2 y : Value) (u : TypeId) (pv : Value) (older : List PanicEntry) (w : World) (hbc : b ≠ c)
    (c0 : w.cell? ⟨b, 0, none⟩ = some x0) (c1 : w.cell? ⟨b, 1, none⟩ = some x1) (c2 : w.cell? ⟨b, 2, none⟩ = some x2) (c3 : w.cell? ⟨c, 0, none⟩ = some y)
    (f0 : w.frozen? ⟨b, 0, none⟩ = false) (f1 : w.frozen? ⟨b, 1, none⟩ = false) (f2 : w.frozen? ⟨b, 2, none⟩ = false) (f3 : w.frozen? ⟨c, 0, none⟩ = false) :
    CallsD Tryz.prog 33 #[.pointer (some ⟨b, 0, none⟩), .pointer (some ⟨c, 0, none⟩)] (.panicking ({ v := .iface u pv, recovered := false } :: older)) w fun e u' w' =>
      e = .returned (.tuple #[]) ∧ u' = .panicking ({ v := .iface u pv, recovered := true } :: older) ∧
        w' = (((w.setCell ⟨b, 0, none⟩ (.int .u8 0)).setCell ⟨b, 1, none⟩ (.slice none 0 0)).setCell ⟨b, 2, none⟩ (.slice none 0 0)).setCell ⟨c, 0, none⟩ (.int .i64 2) := by
  refine callsD_of_wpS Tryz.func33 rfl fun c₀ cs hu => ?_
  apply wpS_seq
  apply wpS_region
  simp [wpOpsS, go_sem, recoverD, hu, Tryz.ntmps33, Exit.thenS]
  refine wpS_cond (t := true) (by simp [Act.eval, Array.replicate]) ?_
  simp only [if_true]
  apply wpS_region
  simp [wpOpsS, go_sem, c0, c1, c2, c3, f0, f1, f2, f3, bodyPostS, results, Tryz.results33]

theorem catch_idle_read (b c : Nat) (w : World) :
    CallsD Tryz.prog 33 #[.pointer (some ⟨b, 0, none⟩), .pointer (some ⟨c, 0, none⟩)] .returning w fun e u' w' => e = .returned (.tuple #[]) ∧ u' = .returning ∧ w' = w := by
  refine callsD_of_wpS Tryz.func33 rfl fun c₀ cs hu => ?_
  apply wpS_seq
  apply wpS_region
  simp [wpOpsS, go_sem, recoverD, hu, Tryz.ntmps33, Exit.thenS]
  refine wpS_cond (t := false) (by simp [Act.eval, Array.replicate]) ?_
  simp only [Bool.false_eq_true, if_false]
  refine wpS_of_wp (wp_skip ?_)
  cases c₀
  simp_all [bodyPostS, results, Tryz.results33]
end Go.Proofs.YtmofnkinclckoaaGreatDoor

namespace Go.Proofs.YtmofnkinclckoaaGreatDoor
open Go.RowKit Go.Lib Go.WideShapes

theorem rAll_append (a b : Bs) : ∀ s, rAll (a ++ b) s = (rAll a s).bind (rAll b) := by
  induction a with
  | nil => intro s; rfl
  | cons c a ih =>
    intro s
    rw [List.cons_append, rAll, rAll]
    cases rField c s with
    | none => rfl
    | some s1 => exact ih s1
theorem rAll_next {l : Bs} {j : Nat} {c : UInt8} {s x x' : RS} (h : rAll (l.take j) s = some x) (hc : l[j]? = some c) (hf : rField c x = some x') : rAll (l.take (j + 1)) s = some x' := by
  obtain ⟨h1, e1⟩ := List.getElem?_eq_some_iff.1 hc
  rw [List.take_succ_eq_append_getElem h1, rAll_append, h, e1]
  show (rField c x).bind (rAll []) = _
  rw [hf]; rfl
theorem rAll_fail {l : Bs} {j : Nat} {c : UInt8} {s x : RS} (h : rAll (l.take j) s = some x) (hc : l[j]? = some c) (hf : rField c x = none) : rAll l s = none := by
  obtain ⟨h1, e1⟩ := List.getElem?_eq_some_iff.1 hc
  have e : l = l.take j ++ (c :: l.drop (j + 1)) := by rw [← e1, ← List.drop_eq_getElem_cons h1, List.take_append_drop]
  rw [e, rAll_append, h]
  show (rField c x).bind _ = none
  rw [hf]; rfl
theorem readL_some {back : Bool} {c : UInt8} {S : Bs} {l : Bs} (h : lay back c = some l) (hc : ¬ (back = false ∧ c = 0 ∧ isCancel S = true)) : readL back c S = (rAll l ⟨S, [], []⟩).bind rDone := by
  unfold readL layR
  rw [if_neg hc, h]; rfl
theorem readL_cancel {S : Bs} (h : isCancel S = true) : readL false 0 S = (rAll [105, 105, 105] ⟨S, [], []⟩).bind rDone := by
  unfold readL layR
  rw [if_pos ⟨rfl, rfl, h⟩]; rfl
theorem readL_none {back : Bool} {c : UInt8} {S : Bs} (h : lay back c = none) : readL back c S = none := by
  unfold readL layR
  by_cases hc : back = false ∧ c = 0 ∧ isCancel S = true
  · obtain ⟨rfl, rfl, _⟩ := hc
    rw [lay_bare] at h; cases h
  · rw [if_neg hc, h]; rfl

theorem own_four {w : World} {base n : Nat} {e : TypeId} {v : Value} {xs : List Value} (h : w.ownsRow base e 1 v n xs) (b c : Nat) (hb : b < base) (hc : c < base) (v0 v1 v2 v3 : Value) : ((((w.setCell ⟨b, 0, none⟩ v0).setCell ⟨b, 1, none⟩ v1).setCell ⟨b, 2, none⟩ v2).setCell ⟨c, 0, none⟩ v3).drew.ownsRow base e 1 v n xs :=
  (ownsRow_setCell_below (ownsRow_setCell_below (ownsRow_setCell_below (ownsRow_setCell_below h (a := ⟨b, 0, none⟩) hb v0) (a := ⟨b, 1, none⟩) hb v1) (a := ⟨b, 2, none⟩) hb v2) (a := ⟨c, 0, none⟩) hc v3).drew

theorem own_base {w : World} {b b' n : Nat} {e : TypeId} {v : Value} {xs : List Value} (h : w.ownsRow b e 1 v n xs) (hb : b' ≤ b) : w.ownsRow b' e 1 v n xs := by
  refine ⟨h.1, h.2.imp id ?_⟩
  rintro ⟨g, cap, cur, h1, h2, h3⟩
  exact ⟨g, cap, cur, h1, Nat.le_trans hb h2, h3⟩

/-- What a reading leaves: a message, whose rows lie in memory; or none. -/
def MsgOut (w : World) (c : UInt8) (err : Int) (r : Option (List Bs × List Int)) (e : Ending) (w' : World) : Prop :=
  match r with
  | some p => ∃ tv nv, e = .returned (.tuple #[.agg #[.int .u8 (c.toNat : Nat), tv, nv], .int .i64 0]) ∧ w'.ownsRow w.heap.size 9 1 tv p.1.length (tcells p.1) ∧ w'.ownsRow w.heap.size 3 1 nv p.2.length (ncells p.2) ∧ Below w.heap.size w w'
  | none => e = .returned (.tuple #[.agg #[.int .u8 0, .slice none 0 0, .slice none 0 0], .int .i64 err]) ∧ Below w.heap.size w w'

end Go.Proofs.YtmofnkinclckoaaGreatDoor

namespace Go.Proofs.YtmofnkinclckoaaGreatDoor
open Go.RowKit Go.Lib Go.WideShapes

set_option maxRecDepth 100000 in
set_option maxHeartbeats 16000000 in
theorem read_none (w : World) (back : Bool) (c : UInt8) (S : Bs) (hl : S.length ≤ 800000) (hlay : lay back c = none) :
    Calls Tryz.prog 25 #[.bool back, .agg #[.int .u8 (c.toNat : Nat), .string ⟨S.toArray⟩]] w (MsgOut w c 2 (readL back c S)) := by
  have hmf : ∀ (fn : Fn) (first cap : Array Value) (w : World), (Instr.makeFunc fn first cap).run Tryz.prog w = .ok (.func fn first cap) w := fun _ _ _ _ => rfl
  obtain ⟨ci, hci⟩ : ∃ ci : Int, ci = (c.toNat : Nat) := ⟨_, rfl⟩
  obtain ⟨sb, hsb⟩ : ∃ sb : ByteArray, sb = ⟨S.toArray⟩ := ⟨_, rfl⟩
  obtain ⟨R, hR⟩ : ∃ R, R = readL back c S := ⟨_, rfl⟩
  rw [← hR, ← hci, ← hsb]
  have HCI := Lib.hid hci; have HR := Lib.hid hR
  obtain ⟨W0, hW0⟩ : ∃ x, x = ((w.alloc (.cells #[.int .u8 ci, .string sb] 50)).alloc (.cells #[.int .u8 0, .slice none 0 0, .slice none 0 0] 54)).alloc (.cells #[.int .i64 0] 40) := ⟨_, rfl⟩
  have hsz : W0.heap.size = w.heap.size + 1 + 1 + 1 := by rw [hW0]; simp
  have HB := Lib.hid (show Below w.heap.size w W0 by rw [hW0]; exact (((Below.refl _ _).alloc (Nat.le_refl _) _).alloc (by simp) _).alloc (by simp; omega) _)
  have HK := Lib.hid (show W0.cell? ⟨w.heap.size + 1, 0, none⟩ = some (.int .u8 0) ∧ W0.cell? ⟨w.heap.size + 1, 1, none⟩ = some (.slice none 0 0) ∧ W0.cell? ⟨w.heap.size + 1, 2, none⟩ = some (.slice none 0 0) ∧ W0.cell? ⟨w.heap.size + 1 + 1, 0, none⟩ = some (.int .i64 0) ∧ W0.frozen? ⟨w.heap.size + 1, 0, none⟩ = false ∧ W0.frozen? ⟨w.heap.size + 1, 1, none⟩ = false ∧ W0.frozen? ⟨w.heap.size + 1, 2, none⟩ = false ∧ W0.frozen? ⟨w.heap.size + 1 + 1, 0, none⟩ = false by rw [hW0]; simp [go_sem])
  have F0 := Lib.hid (show ∀ W, Below W0.heap.size W0 W → W.cell? ⟨w.heap.size, 0, none⟩ = some (.int .u8 ci) ∧ W.cell? ⟨w.heap.size, 1, none⟩ = some (.string sb) from by
    intro W hW
    have k : ∀ i, W.cell? ⟨w.heap.size, i, none⟩ = W0.cell? ⟨w.heap.size, i, none⟩ := fun i => hW.cell (p := ⟨w.heap.size, i, none⟩) (by show w.heap.size < _; omega)
    exact ⟨(k 0).trans (by rw [hW0]; simp [go_sem]), (k 1).trans (by rw [hW0]; simp [go_sem])⟩)
  have HNEW := Lib.hid (isd_new W0 S)
  have HRR := Lib.hid (show droom ⟨S, [], []⟩ ≤ 850000 by show S.length + 0 ≤ _; omega)
  have HE := Lib.hid hW0
  have HSZ := Lib.hid hsz
  have HIC := Lib.hid (fun W => iscancel_any W S hl)
  rw [← hsb] at HNEW HIC
  have HLY := Lib.hid (fun W => lay_any W back c)
  rw [← hci] at HLY
  clear hW0 hsz hR hsb hl
  rw [hlay] at HLY
  have HNO := Lib.hid (HR.out.trans (readL_none hlay))
  clear hlay hci
  go_enter_defers Tryz.func25, Tryz.ntmps25
  go_wp2_with fail
  refine (HLY.out _).mono ?_; rintro e w1 ⟨rfl, rfl⟩
  unfold layV
  go_wp2_with fail
  refine (demand_no _).mono ?_; rintro e w2 ⟨rfl, rfl⟩
  go_wp2_with fail
  rw [← HE.out]
  have kk := HK.out
  have b0 : W0.cell? ⟨w.heap.size + 1, 0, none⟩ = some (.int .u8 0) := ((Below.refl W0.heap.size W0).cell (p := ⟨w.heap.size + 1, 0, none⟩) (by show w.heap.size + 1 < _; rw [HSZ.out]; omega)).trans kk.1
  have b1 : W0.cell? ⟨w.heap.size + 1, 1, none⟩ = some (.slice none 0 0) := ((Below.refl W0.heap.size W0).cell (p := ⟨w.heap.size + 1, 1, none⟩) (by show w.heap.size + 1 < _; rw [HSZ.out]; omega)).trans kk.2.1
  have b2 : W0.cell? ⟨w.heap.size + 1, 2, none⟩ = some (.slice none 0 0) := ((Below.refl W0.heap.size W0).cell (p := ⟨w.heap.size + 1, 2, none⟩) (by show w.heap.size + 1 < _; rw [HSZ.out]; omega)).trans kk.2.2.1
  have b3 : W0.cell? ⟨w.heap.size + 1 + 1, 0, none⟩ = some (.int .i64 0) := ((Below.refl W0.heap.size W0).cell (p := ⟨w.heap.size + 1 + 1, 0, none⟩) (by show w.heap.size + 1 + 1 < _; rw [HSZ.out]; omega)).trans kk.2.2.2.1
  have g0 : W0.frozen? ⟨w.heap.size + 1, 0, none⟩ = false := ((Below.refl W0.heap.size W0).frozen (p := ⟨w.heap.size + 1, 0, none⟩) (by show w.heap.size + 1 < _; rw [HSZ.out]; omega)).trans kk.2.2.2.2.1
  have g1 : W0.frozen? ⟨w.heap.size + 1, 1, none⟩ = false := ((Below.refl W0.heap.size W0).frozen (p := ⟨w.heap.size + 1, 1, none⟩) (by show w.heap.size + 1 < _; rw [HSZ.out]; omega)).trans kk.2.2.2.2.2.1
  have g2 : W0.frozen? ⟨w.heap.size + 1, 2, none⟩ = false := ((Below.refl W0.heap.size W0).frozen (p := ⟨w.heap.size + 1, 2, none⟩) (by show w.heap.size + 1 < _; rw [HSZ.out]; omega)).trans kk.2.2.2.2.2.2.1
  have g3 : W0.frozen? ⟨w.heap.size + 1 + 1, 0, none⟩ = false := ((Below.refl W0.heap.size W0).frozen (p := ⟨w.heap.size + 1 + 1, 0, none⟩) (by show w.heap.size + 1 + 1 < _; rw [HSZ.out]; omega)).trans kk.2.2.2.2.2.2.2
  clear kk
  unfold errV
  refine leaves_cons (f := 33) (args := #[.pointer (some ⟨w.heap.size + 1, 0, none⟩), .pointer (some ⟨w.heap.size + 1 + 1, 0, none⟩)]) (by simp) (by simp [go_sem]) ?_
  refine (catch_read (w.heap.size + 1) (w.heap.size + 1 + 1) _ _ _ _ _ _ _ _ (by omega) b0 b1 b2 b3 g0 g1 g2 g3).mono ?_
  rintro e u' w'' ⟨rfl, rfl, rfl⟩
  have HNO := Lib.hid (show R = none from HNO.out)
  have HBB := Lib.hid (HB.out.trans ((Below.refl W0.heap.size W0).mono (by rw [HSZ.out]; omega)))
  rw [HNO.out]
  simp [Leaves, settle, results, Tryz.results25, go_sem, b0, b1, b2, b3]
  exact ⟨rfl, (((HBB.out.setCell (by show w.heap.size ≤ w.heap.size + 1; omega) _).setCell (by show w.heap.size ≤ w.heap.size + 1; omega) _).setCell (by show w.heap.size ≤ w.heap.size + 1; omega) _).setCell (by show w.heap.size ≤ w.heap.size + 1 + 1; omega) _⟩
end Go.Proofs.YtmofnkinclckoaaGreatDoor

namespace Go.Proofs.YtmofnkinclckoaaGreatDoor
open Go.RowKit Go.Lib Go.WideShapes

set_option maxRecDepth 100000 in
set_option maxHeartbeats 16000000 in
theorem read_back (w : World) (c : UInt8) (S : Bs) (hl : S.length ≤ 800000) (l : Bs) (hlay : lay true c = some l) :
    Calls Tryz.prog 25 #[.bool true, .agg #[.int .u8 (c.toNat : Nat), .string ⟨S.toArray⟩]] w (MsgOut w c 2 (readL true c S)) := by
  have hmf : ∀ (fn : Fn) (first cap : Array Value) (w : World), (Instr.makeFunc fn first cap).run Tryz.prog w = .ok (.func fn first cap) w := fun _ _ _ _ => rfl
  obtain ⟨ci, hci⟩ : ∃ ci : Int, ci = (c.toNat : Nat) := ⟨_, rfl⟩
  obtain ⟨sb, hsb⟩ : ∃ sb : ByteArray, sb = ⟨S.toArray⟩ := ⟨_, rfl⟩
  obtain ⟨R, hR⟩ : ∃ R, R = readL true c S := ⟨_, rfl⟩
  rw [← hR, ← hci, ← hsb]
  have HCI := Lib.hid hci; have HR := Lib.hid hR
  obtain ⟨W0, hW0⟩ : ∃ x, x = ((w.alloc (.cells #[.int .u8 ci, .string sb] 50)).alloc (.cells #[.int .u8 0, .slice none 0 0, .slice none 0 0] 54)).alloc (.cells #[.int .i64 0] 40) := ⟨_, rfl⟩
  have hsz : W0.heap.size = w.heap.size + 1 + 1 + 1 := by rw [hW0]; simp
  have HB := Lib.hid (show Below w.heap.size w W0 by rw [hW0]; exact (((Below.refl _ _).alloc (Nat.le_refl _) _).alloc (by simp) _).alloc (by simp; omega) _)
  have HK := Lib.hid (show W0.cell? ⟨w.heap.size + 1, 0, none⟩ = some (.int .u8 0) ∧ W0.cell? ⟨w.heap.size + 1, 1, none⟩ = some (.slice none 0 0) ∧ W0.cell? ⟨w.heap.size + 1, 2, none⟩ = some (.slice none 0 0) ∧ W0.cell? ⟨w.heap.size + 1 + 1, 0, none⟩ = some (.int .i64 0) ∧ W0.frozen? ⟨w.heap.size + 1, 0, none⟩ = false ∧ W0.frozen? ⟨w.heap.size + 1, 1, none⟩ = false ∧ W0.frozen? ⟨w.heap.size + 1, 2, none⟩ = false ∧ W0.frozen? ⟨w.heap.size + 1 + 1, 0, none⟩ = false by rw [hW0]; simp [go_sem])
  have F0 := Lib.hid (show ∀ W, Below W0.heap.size W0 W → W.cell? ⟨w.heap.size, 0, none⟩ = some (.int .u8 ci) ∧ W.cell? ⟨w.heap.size, 1, none⟩ = some (.string sb) from by
    intro W hW
    have k : ∀ i, W.cell? ⟨w.heap.size, i, none⟩ = W0.cell? ⟨w.heap.size, i, none⟩ := fun i => hW.cell (p := ⟨w.heap.size, i, none⟩) (by show w.heap.size < _; omega)
    exact ⟨(k 0).trans (by rw [hW0]; simp [go_sem]), (k 1).trans (by rw [hW0]; simp [go_sem])⟩)
  have HNEW := Lib.hid (isd_new W0 S)
  have HRR := Lib.hid (show droom ⟨S, [], []⟩ ≤ 850000 by show S.length + 0 ≤ _; omega)
  have HE := Lib.hid hW0
  have HSZ := Lib.hid hsz
  have HIC := Lib.hid (fun W => iscancel_any W S hl)
  rw [← hsb] at HNEW HIC
  have HLY := Lib.hid (fun W => lay_any W true c)
  rw [← hci] at HLY
  clear hW0 hsz hR hsb hl
  rw [hlay] at HLY
  have HLL0 := Lib.hid (lay_letters hlay)
  have HLET := Lib.hid HLL0.out.1
  have HL5 := Lib.hid HLL0.out.2
  have HR := Lib.hid (HR.out.trans (readL_some hlay (by simp)))
  clear hlay HLL0 hci
  go_enter_defers Tryz.func25, Tryz.ntmps25
  go_wp2_with fail
  refine (HLY.out _).mono ?_; rintro e w1 ⟨rfl, rfl⟩
  unfold layV
  go_wp2_with fail
  refine (demand_ok _).mono ?_; rintro e w2 ⟨rfl, rfl⟩
  go_wp2_with fail
  rw [← HE.out]
  have HIQ := HNEW
  obtain ⟨L, hL⟩ : ∃ L : ByteArray, L = ⟨l.toArray⟩ := ⟨_, rfl⟩
  have HLL := Lib.hid (show bytes L = l by rw [hL])
  have hl5 : L.size ≤ 5 := by rw [← blen, HLL.out]; exact HL5.out
  have HLS := Lib.hid (show L.size = l.length by rw [← blen, HLL.out])
  rw [← hL]
  clear hL
  go_loopg [38] l.length (fun g i wr => ∃ (j : Nat) (x : RS), i = .int .i64 j ∧ j ≤ l.length ∧ g = l.length - j ∧ (rAll (l.take j) ⟨S, [], []⟩ = some x) ∧ droom x ≤ 850000 ∧ IsD W0 wr x)
  case atStart => exact ⟨0, _, rfl, Nat.zero_le _, rfl, rfl, HRR.out, HIQ.out⟩
  case round =>
    obtain ⟨j, x, rfl, hj, hg, hall, hr2, hI⟩ := hrel
    have HALL := Lib.hid hall; have HG := Lib.hid hg; have HI := Lib.hid hI
    clear hall hg hI
    by_cases hlt0 : j < l.length
    · have hltn : (j : Int) < l.length := by omega
      have hlt : j < L.size := by rw [HLS.out]; exact hlt0
      have hlt' : (j : Int) < L.size := by omega
      have hlj : l[j]? = some L[j] := by rw [← HLL.out]; exact List.getElem?_eq_getElem (by rw [blen]; exact hlt)
      have HLJ := Lib.hid (HLET.out L[j] (List.mem_of_getElem? hlj))
      have HAN := Lib.hid (fun x' => rAll_next (x' := x') HALL.out hlj)
      have HAF := Lib.hid (rAll_fail HALL.out hlj)
      clear hlj
      have HF := dfield_any W0 wr x L[j] HLJ.out hr2 HI.out
      rw [HSZ.out] at HF
      have HF := Lib.hid HF
      go_wp2_with fail
      refine HF.out.mono ?_; rintro e w6 (⟨x', hx, rfl, hI⟩ | ⟨hx, rfl, hB⟩)
      · have HI6 := Lib.hid hI
        have HN6 := Lib.hid (HAN.out x' hx)
        have hr6 : droom x' ≤ 850000 := Nat.le_trans (nar_field _ _ _ hx) hr2
        clear hx hI
        go_wp2_with fail
        go_roundg (l.length - (j + 1))
        case measure => have := HG.out; omega
        case rel => exact ⟨j + 1, x', by go_num, by omega, rfl, HN6.out, hr6, HI6.out⟩
      · have HN6 := Lib.hid (HAF.out hx)
        clear hx
        go_wp2_with fail
        have kk := HK.out
        have b0 : w6.cell? ⟨w.heap.size + 1, 0, none⟩ = some (.int .u8 0) := (hB.cell (p := ⟨w.heap.size + 1, 0, none⟩) (by show w.heap.size + 1 < _; rw [HSZ.out]; omega)).trans kk.1
        have b1 : w6.cell? ⟨w.heap.size + 1, 1, none⟩ = some (.slice none 0 0) := (hB.cell (p := ⟨w.heap.size + 1, 1, none⟩) (by show w.heap.size + 1 < _; rw [HSZ.out]; omega)).trans kk.2.1
        have b2 : w6.cell? ⟨w.heap.size + 1, 2, none⟩ = some (.slice none 0 0) := (hB.cell (p := ⟨w.heap.size + 1, 2, none⟩) (by show w.heap.size + 1 < _; rw [HSZ.out]; omega)).trans kk.2.2.1
        have b3 : w6.cell? ⟨w.heap.size + 1 + 1, 0, none⟩ = some (.int .i64 0) := (hB.cell (p := ⟨w.heap.size + 1 + 1, 0, none⟩) (by show w.heap.size + 1 + 1 < _; rw [HSZ.out]; omega)).trans kk.2.2.2.1
        have g0 : w6.frozen? ⟨w.heap.size + 1, 0, none⟩ = false := (hB.frozen (p := ⟨w.heap.size + 1, 0, none⟩) (by show w.heap.size + 1 < _; rw [HSZ.out]; omega)).trans kk.2.2.2.2.1
        have g1 : w6.frozen? ⟨w.heap.size + 1, 1, none⟩ = false := (hB.frozen (p := ⟨w.heap.size + 1, 1, none⟩) (by show w.heap.size + 1 < _; rw [HSZ.out]; omega)).trans kk.2.2.2.2.2.1
        have g2 : w6.frozen? ⟨w.heap.size + 1, 2, none⟩ = false := (hB.frozen (p := ⟨w.heap.size + 1, 2, none⟩) (by show w.heap.size + 1 < _; rw [HSZ.out]; omega)).trans kk.2.2.2.2.2.2.1
        have g3 : w6.frozen? ⟨w.heap.size + 1 + 1, 0, none⟩ = false := (hB.frozen (p := ⟨w.heap.size + 1 + 1, 0, none⟩) (by show w.heap.size + 1 + 1 < _; rw [HSZ.out]; omega)).trans kk.2.2.2.2.2.2.2
        clear kk
        unfold errV
        refine leaves_cons (f := 33) (args := #[.pointer (some ⟨w.heap.size + 1, 0, none⟩), .pointer (some ⟨w.heap.size + 1 + 1, 0, none⟩)]) (by simp) (by simp [go_sem]) ?_
        refine (catch_read (w.heap.size + 1) (w.heap.size + 1 + 1) _ _ _ _ _ _ _ _ (by omega) b0 b1 b2 b3 g0 g1 g2 g3).mono ?_
        rintro e u' w'' ⟨rfl, rfl, rfl⟩
        have HNO := Lib.hid (show R = none from HR.out.trans (by rw [HN6.out]; rfl))
        have HBB := Lib.hid (HB.out.trans (hB.mono (by rw [HSZ.out]; omega)))
        rw [HNO.out]
        simp [Leaves, settle, results, Tryz.results25, go_sem, b0, b1, b2, b3]
        exact ⟨rfl, (((HBB.out.setCell (by show w.heap.size ≤ w.heap.size + 1; omega) _).setCell (by show w.heap.size ≤ w.heap.size + 1; omega) _).setCell (by show w.heap.size ≤ w.heap.size + 1; omega) _).setCell (by show w.heap.size ≤ w.heap.size + 1 + 1; omega) _⟩
    · have hjz : j = L.size := by rw [HLS.out]; omega
      have HALL := Lib.hid (show rAll l ⟨S, [], []⟩ = some x by have h := HALL.out; rw [hjz, ← blen, HLL.out, List.take_length] at h; exact h)
      have hge : ¬ (j : Int) < l.length := by omega
      have HDN := Lib.hid (show R = rDone x by rw [HR.out, HALL.out]; rfl)
      obtain ⟨tv, nv, hD⟩ := HI.out
      have c0 := hD.c0
      have c1 := hD.c1
      have c2 := hD.c2
      rw [HSZ.out] at c0 c1 c2
      have HD := Lib.hid hD
      have HWB := Lib.hid hD.below
      clear hjz hD
      by_cases hS : x.S = []
      · have hse : ((⟨x.S.toArray⟩ : ByteArray).toList == ([] : List UInt8)) = true := by rw [hS, toList_eq]; rfl
        have HDN := Lib.hid (show R = some (x.T, x.N) by rw [HDN.out]; exact if_pos hS)
        generalize (⟨x.S.toArray⟩ : ByteArray) = xs at c0 hse
        clear hS
        go_wp2_with fail
        refine (demand_ok _).mono ?_; rintro e w7 ⟨rfl, rfl⟩
        have kk := HK.out
        have b0 : wr.cell? ⟨w.heap.size + 1, 0, none⟩ = some (.int .u8 0) := (HWB.out.cell (p := ⟨w.heap.size + 1, 0, none⟩) (by show w.heap.size + 1 < _; rw [HSZ.out]; omega)).trans kk.1
        have b1 : wr.cell? ⟨w.heap.size + 1, 1, none⟩ = some (.slice none 0 0) := (HWB.out.cell (p := ⟨w.heap.size + 1, 1, none⟩) (by show w.heap.size + 1 < _; rw [HSZ.out]; omega)).trans kk.2.1
        have b2 : wr.cell? ⟨w.heap.size + 1, 2, none⟩ = some (.slice none 0 0) := (HWB.out.cell (p := ⟨w.heap.size + 1, 2, none⟩) (by show w.heap.size + 1 < _; rw [HSZ.out]; omega)).trans kk.2.2.1
        have b3 : wr.cell? ⟨w.heap.size + 1 + 1, 0, none⟩ = some (.int .i64 0) := (HWB.out.cell (p := ⟨w.heap.size + 1 + 1, 0, none⟩) (by show w.heap.size + 1 + 1 < _; rw [HSZ.out]; omega)).trans kk.2.2.2.1
        have g0 : wr.frozen? ⟨w.heap.size + 1, 0, none⟩ = false := (HWB.out.frozen (p := ⟨w.heap.size + 1, 0, none⟩) (by show w.heap.size + 1 < _; rw [HSZ.out]; omega)).trans kk.2.2.2.2.1
        have g1 : wr.frozen? ⟨w.heap.size + 1, 1, none⟩ = false := (HWB.out.frozen (p := ⟨w.heap.size + 1, 1, none⟩) (by show w.heap.size + 1 < _; rw [HSZ.out]; omega)).trans kk.2.2.2.2.2.1
        have g2 : wr.frozen? ⟨w.heap.size + 1, 2, none⟩ = false := (HWB.out.frozen (p := ⟨w.heap.size + 1, 2, none⟩) (by show w.heap.size + 1 < _; rw [HSZ.out]; omega)).trans kk.2.2.2.2.2.2.1
        have g3 : wr.frozen? ⟨w.heap.size + 1 + 1, 0, none⟩ = false := (HWB.out.frozen (p := ⟨w.heap.size + 1 + 1, 0, none⟩) (by show w.heap.size + 1 + 1 < _; rw [HSZ.out]; omega)).trans kk.2.2.2.2.2.2.2
        clear kk
        have kf := F0.out wr HWB.out
        obtain ⟨ta, tc, rfl⟩ := ownsRow_form HD.out.texts
        obtain ⟨na, nc, rfl⟩ := ownsRow_form HD.out.nums
        have k0 := kf.1
        have HTX := Lib.hid HD.out.texts
        have HNM := Lib.hid HD.out.nums
        have HBB := Lib.hid (HB.out.trans (HWB.out.mono (by rw [HSZ.out]; omega)))
        rw [HSZ.out] at HTX HNM
        clear kf
        go_upto_region 13 with (fail)
        go_region
        all_goals
          go_wp2_with fail
          refine leaves_cons (f := 33) (args := #[.pointer (some ⟨w.heap.size + 1, 0, none⟩), .pointer (some ⟨w.heap.size + 1 + 1, 0, none⟩)]) (by simp) (by simp [go_sem]) ?_
          refine (catch_idle_read _ _ _).mono ?_
          rintro e u' w'' ⟨rfl, rfl, rfl⟩
          rw [HDN.out]
          simp [Leaves, settle, results, Tryz.results25, go_sem, b0, b1, b2, b3]
          refine ⟨_, _, by rw [HCI.out], own_base (own_four HTX.out _ _ (by omega) (by omega) _ _ _ _) (by omega), own_base (own_four HNM.out _ _ (by omega) (by omega) _ _ _ _) (by omega), ((((HBB.out.setCell (by show w.heap.size ≤ w.heap.size + 1; omega) _).setCell (by show w.heap.size ≤ w.heap.size + 1; omega) _).setCell (by show w.heap.size ≤ w.heap.size + 1; omega) _).setCell (by show w.heap.size ≤ w.heap.size + 1 + 1; omega) _).drew⟩
      · have hse : ((⟨x.S.toArray⟩ : ByteArray).toList == ([] : List UInt8)) = false := by
          rw [toList_eq, beq_eq_false_iff_ne]; intro e
          exact hS e
        have HDN := Lib.hid (show R = none by rw [HDN.out]; exact if_neg hS)
        generalize (⟨x.S.toArray⟩ : ByteArray) = xs at c0 hse
        clear hS
        go_wp2_with fail
        refine (demand_no _).mono ?_; rintro e w7 ⟨rfl, rfl⟩
        go_wp2_with fail
        have kk := HK.out
        have b0 : wr.cell? ⟨w.heap.size + 1, 0, none⟩ = some (.int .u8 0) := (HWB.out.cell (p := ⟨w.heap.size + 1, 0, none⟩) (by show w.heap.size + 1 < _; rw [HSZ.out]; omega)).trans kk.1
        have b1 : wr.cell? ⟨w.heap.size + 1, 1, none⟩ = some (.slice none 0 0) := (HWB.out.cell (p := ⟨w.heap.size + 1, 1, none⟩) (by show w.heap.size + 1 < _; rw [HSZ.out]; omega)).trans kk.2.1
        have b2 : wr.cell? ⟨w.heap.size + 1, 2, none⟩ = some (.slice none 0 0) := (HWB.out.cell (p := ⟨w.heap.size + 1, 2, none⟩) (by show w.heap.size + 1 < _; rw [HSZ.out]; omega)).trans kk.2.2.1
        have b3 : wr.cell? ⟨w.heap.size + 1 + 1, 0, none⟩ = some (.int .i64 0) := (HWB.out.cell (p := ⟨w.heap.size + 1 + 1, 0, none⟩) (by show w.heap.size + 1 + 1 < _; rw [HSZ.out]; omega)).trans kk.2.2.2.1
        have g0 : wr.frozen? ⟨w.heap.size + 1, 0, none⟩ = false := (HWB.out.frozen (p := ⟨w.heap.size + 1, 0, none⟩) (by show w.heap.size + 1 < _; rw [HSZ.out]; omega)).trans kk.2.2.2.2.1
        have g1 : wr.frozen? ⟨w.heap.size + 1, 1, none⟩ = false := (HWB.out.frozen (p := ⟨w.heap.size + 1, 1, none⟩) (by show w.heap.size + 1 < _; rw [HSZ.out]; omega)).trans kk.2.2.2.2.2.1
        have g2 : wr.frozen? ⟨w.heap.size + 1, 2, none⟩ = false := (HWB.out.frozen (p := ⟨w.heap.size + 1, 2, none⟩) (by show w.heap.size + 1 < _; rw [HSZ.out]; omega)).trans kk.2.2.2.2.2.2.1
        have g3 : wr.frozen? ⟨w.heap.size + 1 + 1, 0, none⟩ = false := (HWB.out.frozen (p := ⟨w.heap.size + 1 + 1, 0, none⟩) (by show w.heap.size + 1 + 1 < _; rw [HSZ.out]; omega)).trans kk.2.2.2.2.2.2.2
        clear kk
        unfold errV
        refine leaves_cons (f := 33) (args := #[.pointer (some ⟨w.heap.size + 1, 0, none⟩), .pointer (some ⟨w.heap.size + 1 + 1, 0, none⟩)]) (by simp) (by simp [go_sem]) ?_
        refine (catch_read (w.heap.size + 1) (w.heap.size + 1 + 1) _ _ _ _ _ _ _ _ (by omega) b0 b1 b2 b3 g0 g1 g2 g3).mono ?_
        rintro e u' w'' ⟨rfl, rfl, rfl⟩
        have HNO := Lib.hid (show R = none from HDN.out)
        have HBB := Lib.hid (HB.out.trans (HWB.out.mono (by rw [HSZ.out]; omega)))
        rw [HNO.out]
        simp [Leaves, settle, results, Tryz.results25, go_sem, b0, b1, b2, b3]
        exact ⟨rfl, (((HBB.out.setCell (by show w.heap.size ≤ w.heap.size + 1; omega) _).setCell (by show w.heap.size ≤ w.heap.size + 1; omega) _).setCell (by show w.heap.size ≤ w.heap.size + 1; omega) _).setCell (by show w.heap.size ≤ w.heap.size + 1 + 1; omega) _⟩
end Go.Proofs.YtmofnkinclckoaaGreatDoor
