/- The reader's Next, where a frame is next. -/
import Derived.Test.YtjohgfcfnlilmaaRows
import Derived.Test.YtjohgfcfnlilmaaNext
namespace Go.Proofs.Ytjohgfcfnlilmaa
open Go.RowKit Go.Lib

set_option maxHeartbeats 2000000 in
theorem next_good (p : Nat) (v : Value) (s : ByteArray) (bare : Bool) (w : World) (h : RIs w p v s bare 0) (hE : frameE s bare = 0) :
    Calls Try.prog 20 #[.pointer (some ⟨p, 0, none⟩)] w fun e w' => e = .returned (.tuple #[.agg #[.int .u8 (headT s bare : Nat), .string (frameB s bare)], .int .i64 0]) ∧ Nexted p v (s.extract (frameN s bare) s.size) false 0 w w' := by
  obtain ⟨a, c, rfl⟩ := h.own.form
  obtain ⟨c0, c1, c2⟩ := h.cell
  have hp := h.lt
  have H := Lib.hid h
  have HR := Lib.hid h.own.reads
  have HF := Lib.hid (fun W (hv : Reads W (.slice a s.size c) s) => firstB_good s (.slice a s.size c) bare W hv hE)
  have hn0 : 0 < frameN s bare := by have := (good_frame hE); have h1 := this.2.1; unfold frameN; omega
  have hn1 := (good_frame hE).2.2.2.1
  clear hE
  clear h
  go_enter Try.func20, Try.ntmps20
  go_upto_region 3 with fail
  go_cut [4, 5, 6] (fun s4 s5 s6 wx => ∃ q : Nat, s4 = .pointer (some ⟨q, 0, none⟩) ∧ s5 = .int .i64 (frameN s bare : Nat) ∧ s6 = .int .i64 0 ∧ Behind w (headT s bare : Nat) (frameB s bare) q wx)
  case first =>
    go_region_with (go_at_call 24; refine (HF.out _ (by first | exact HR.out.grown ((Below.refl _ _).alloc (Nat.le_refl _) _).drew | exact HR.out.grown (((Below.refl _ _).alloc (Nat.le_refl _) _).alloc (by simp) _).drew)).mono ?_; rintro e w1 ⟨rfl, hb1⟩; first | (have hX := next_before hp c0 c1 c2 hb1; obtain ⟨hB, d0, d1, d2, x2, y2, z2, z3, x4, y4, z4⟩ := hX) | (have hX := next_behind hp c0 c1 c2 hb1; obtain ⟨hB, d0, d1, d2, x2, y2, z2, z3⟩ := hX); clear hb1)
    all_goals go_wp2_with fail
    all_goals go_meet
    all_goals first | exact ⟨_, rfl, rfl, rfl, behind_new hB x2 y2 z2⟩ | exact ⟨_, rfl, rfl, rfl, behind_old hB x2 y2 z4 x4⟩
  case rest =>
    obtain ⟨q, rfl, rfl, rfl, hx, hy, hyf, hq1, hq2, hB⟩ := hcut
    clear HF HR c0 c1 c2
    have hR := Lib.hid (H.out.grown hB)
    have d1 := hR.out.cell.2.1
    have f1 := hR.out.frozen 1
    have hpx : p < wc.heap.size := hR.out.lt
    go_wp2_with fail
    refine (drop_any p (.slice a s.size c) s (frameN s bare) false 0 _ (hR.out.setBare false) hn0 hn1).mono ?_; rintro e w2 ⟨rfl, v', hR2, hT2, hs2⟩
    obtain ⟨hx2, hy2, hyf2, hfin⟩ := good_end H.out hB hx hy hyf hq1 hq2 hR2 hT2 hs2
    have hF2 := Lib.hid hfin
    clear H hR hx hy hyf hB hR2 hT2 hs2 hfin d1 f1
    go_wp2
    refine bodyPost_ret (v := .tuple #[.agg #[.int .u8 (headT s bare : Nat), .string (frameB s bare)], .int .i64 0]) (by simp [results, Try.results20, go_sem, hy2]) rfl ⟨rfl, ?_⟩
    exact hF2.out
end Go.Proofs.Ytjohgfcfnlilmaa
