/- The chapter's example; texts of digits. -/
import Derived.Test.YtdlhmcogpmdonaaGreatDoorRRefB
namespace Go.Proofs.YtdlhmcogpmdonaaGreatDoor
open Go.RowKit Go.Lib Go.WideShapes

/-- What the form of a sign and digits is. -/
theorem cS_of {l : Bs} (sg : Bs) {d : Dcm} (hs : Sgn sg) (h : d.ok) (hl : l = sg ++ d.text) : numB l = some (.fin (sgB sg) d.mil) ∧ cE l = 0 ∧ cS l = (if sgB sg = true then [45] else []) ++ ((if headZ d.w = [] then [48] else headZ d.w) ++ (if trimZ d.p = [] then [] else 46 :: trimZ d.p)) := by
  subst hl
  have hn := num_of sg hs h
  refine ⟨hn, by unfold cE; rw [hn]; rfl, ?_⟩
  unfold cS
  rw [hn]
  exact canon_fin h _
theorem ok_of {d : Dcm} (h1 : d.w.all (fun c => decide (isDg c)) = true) (h2 : d.p.all (fun c => decide (isDg c)) = true) (h3 : d.dot = false → d.p = []) (h4 : 1 ≤ d.w.length + d.p.length) (h5 : d.w.length ≤ 9) (h6 : d.p.length ≤ 6) : d.ok :=
  ⟨fun c hc => of_decide_eq_true (List.all_eq_true.1 h1 c hc), fun c hc => of_decide_eq_true (List.all_eq_true.1 h2 c hc), h3, h4, h5, h6⟩

set_option maxHeartbeats 4000000 in
theorem shown_any (w : World) (hT : Tabs w) (hw : 1 ≤ w.heap.size) :
    Calls Tryz.prog 10 #[] w fun e w' => e = .returned (.bool true) ∧ Below w.heap.size w w' := by
  have h1 := fun W hT hw => canon_at ⟨#[43, 48, 48, 55, 46, 53, 48]⟩ W hT hw (by decide)
  have h2 := fun W hT hw => canon_at ⟨#[45, 46, 48]⟩ W hT hw (by decide)
  have h3 := fun W hT hw => canon_at ⟨#[73, 78, 70]⟩ W hT hw (by decide)
  obtain ⟨_, a1, a2⟩ := cS_of (l := bytes ⟨#[43, 48, 48, 55, 46, 53, 48]⟩) [43] (d := ⟨[48, 48, 55], true, [53, 48]⟩) (.inr (.inl rfl)) (ok_of (by decide) (by decide) (by decide) (by decide) (by decide) (by decide)) rfl
  obtain ⟨_, b1, b2⟩ := cS_of (l := bytes ⟨#[45, 46, 48]⟩) [45] (d := ⟨[], true, [48]⟩) (.inr (.inr rfl)) (ok_of (by decide) (by decide) (by decide) (by decide) (by decide) (by decide)) rfl
  rw [a1, a2] at h1
  rw [b1, b2] at h2
  have c1 : cS (bytes ⟨#[73, 78, 70]⟩) = [73, 110, 102, 105, 110, 105, 116, 121] := rfl
  have c2 : cE (bytes ⟨#[73, 78, 70]⟩) = 0 := rfl
  rw [c1, c2] at h3
  have HA := Lib.hid (show ∀ W, Tabs W → 1 ≤ W.heap.size → Calls Tryz.prog 11 #[.string ⟨#[43, 48, 48, 55, 46, 53, 48]⟩] W fun e w' => e = .returned (.tuple #[.string ⟨#[55, 46, 53]⟩, .int .i64 0]) ∧ Below W.heap.size W w' from h1)
  have HB := Lib.hid (show ∀ W, Tabs W → 1 ≤ W.heap.size → Calls Tryz.prog 11 #[.string ⟨#[45, 46, 48]⟩] W fun e w' => e = .returned (.tuple #[.string ⟨#[45, 48]⟩, .int .i64 0]) ∧ Below W.heap.size W w' from h2)
  have HC := Lib.hid (show ∀ W, Tabs W → 1 ≤ W.heap.size → Calls Tryz.prog 11 #[.string ⟨#[73, 78, 70]⟩] W fun e w' => e = .returned (.tuple #[.string ⟨#[73, 110, 102, 105, 110, 105, 116, 121]⟩, .int .i64 0]) ∧ Below W.heap.size W w' from h3)
  have HT := Lib.hid hT
  clear h1 h2 h3 a1 a2 b1 b2 c1 c2 hT
  go_enter Tryz.func10, Tryz.ntmps10
  go_wp2_with fail
  refine (HA.out _ HT.out hw).mono ?_; rintro e w1 ⟨rfl, hb⟩
  have H1 := Lib.hid hb
  clear hb
  go_wp2_with fail
  refine (HB.out _ (HT.out.step H1.out) (Nat.le_trans hw H1.out.size)).mono ?_; rintro e w2 ⟨rfl, hb⟩
  have H2 := Lib.hid (H1.out.on hb)
  clear hb
  go_wp2_with fail
  refine (HC.out _ (HT.out.step H2.out) (Nat.le_trans hw H2.out.size)).mono ?_; rintro e w3 ⟨rfl, hb⟩
  have H3 := Lib.hid (H2.out.on hb)
  clear hb
  go_wp2_with fail
  go_ret
  exact ⟨rfl, H3.out⟩
end Go.Proofs.YtdlhmcogpmdonaaGreatDoor
