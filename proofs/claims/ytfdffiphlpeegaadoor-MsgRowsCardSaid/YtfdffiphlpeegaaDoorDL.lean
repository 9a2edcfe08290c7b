/- The reader: numbers with a sign, kept. -/
import Derived.Test.YtfdffiphlpeegaaDoorDK
namespace Go.Proofs.YtfdffiphlpeegaaDoor
open Go.RowKit Go.Lib Go.WideShapes

theorem signed_N {k : Nat} {n : Int} {s s' : RS} (h : rSigned k s = some (n, s')) : s'.N = s.N := by
  obtain ⟨_, _, _, _, _, _, e⟩ := signed_out h
  exact e
set_option maxRecDepth 100000 in
set_option maxHeartbeats 4000000 in
theorem short_r (w0 w : World) (s : RS) (hl : droom s ≤ 900000) (h : IsD w0 w s) :
    Calls Tryd.prog 44 #[.pointer (some ⟨w0.heap.size, 0, none⟩)] w (DOut w0 (rShort s)) := by
  have HS := Lib.hid (signed_two w0 w s (by unfold droom at hl; omega) h)
  unfold rShort
  have HO := Lib.hid (fun n s' => signed_N (k := 2) (s := s) (n := n) (s' := s'))
  have hN : s.N.length ≤ 1000000 := by unfold droom at hl; omega
  clear h hl
  generalize rSigned 2 s = R at HS HO ⊢
  go_enter Tryd.func44, Tryd.ntmps44
  go_wp2_with fail
  refine HS.out.mono ?_; rintro e w1 (⟨n, s1, rfl, rfl, hI⟩ | ⟨rfl, rfl, hB⟩)
  · have HI := Lib.hid hI
    have hNN : s1.N.length ≤ 1000000 := by rw [HO.out n s1 rfl]; exact hN
    clear hI
    go_wp2_with fail
    refine (keep_any w0 w1 s1 n hNN HI.out).mono ?_; rintro e w2 (⟨s2, h2, rfl, hI⟩ | ⟨h2, _, _⟩)
    · have HI2 := Lib.hid hI
      obtain rfl := Option.some.inj h2
      clear hI h2
      go_wp2_with fail
      go_end0
      exact .inl ⟨_, rfl, rfl, HI2.out⟩
    · cases h2
  · go_wp2_with fail
    exact ⟨rfl, .inr ⟨rfl, rfl, hB⟩⟩

set_option maxRecDepth 100000 in
set_option maxHeartbeats 4000000 in
theorem long_r (w0 w : World) (s : RS) (hl : droom s ≤ 900000) (h : IsD w0 w s) :
    Calls Tryd.prog 40 #[.pointer (some ⟨w0.heap.size, 0, none⟩)] w (DOut w0 (rLong s)) := by
  have HS := Lib.hid (signed_four w0 w s (by unfold droom at hl; omega) h)
  unfold rLong
  have HO := Lib.hid (fun n s' => signed_N (k := 4) (s := s) (n := n) (s' := s'))
  have hN : s.N.length ≤ 1000000 := by unfold droom at hl; omega
  clear h hl
  generalize rSigned 4 s = R at HS HO ⊢
  go_enter Tryd.func40, Tryd.ntmps40
  go_wp2_with fail
  refine HS.out.mono ?_; rintro e w1 (⟨n, s1, rfl, rfl, hI⟩ | ⟨rfl, rfl, hB⟩)
  · have HI := Lib.hid hI
    have hNN : s1.N.length ≤ 1000000 := by rw [HO.out n s1 rfl]; exact hN
    clear hI
    go_wp2_with fail
    refine (keep_any w0 w1 s1 n hNN HI.out).mono ?_; rintro e w2 (⟨s2, h2, rfl, hI⟩ | ⟨h2, _, _⟩)
    · have HI2 := Lib.hid hI
      obtain rfl := Option.some.inj h2
      clear hI h2
      go_wp2_with fail
      go_end0
      exact .inl ⟨_, rfl, rfl, HI2.out⟩
    · cases h2
  · go_wp2_with fail
    exact ⟨rfl, .inr ⟨rfl, rfl, hB⟩⟩
end Go.Proofs.YtfdffiphlpeegaaDoor
