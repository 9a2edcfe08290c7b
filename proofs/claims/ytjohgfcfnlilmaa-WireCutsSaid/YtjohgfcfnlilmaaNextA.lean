/- The reader's Next, where more bytes are needed. -/
import Derived.Test.YtjohgfcfnlilmaaRows
import Derived.Test.YtjohgfcfnlilmaaNext
namespace Go.Proofs.Ytjohgfcfnlilmaa
open Go.RowKit Go.Lib

set_option maxHeartbeats 2000000 in
theorem next_more (p : Nat) (v : Value) (s : ByteArray) (bare : Bool) (w : World) (h : RIs w p v s bare 0) (hE : frameE s bare = 4) :
    Calls Try.prog 20 #[.pointer (some ⟨p, 0, none⟩)] w fun e w' => e = .returned (.tuple #[.agg #[.int .u8 0, .string { data := #[] }], .int .i64 4]) ∧ Below w.heap.size w w' := by
  obtain ⟨a, c, rfl⟩ := h.own.form
  obtain ⟨c0, c1, c2⟩ := h.cell
  have hp := h.lt
  have H := Lib.hid h
  have HR := Lib.hid h.own.reads
  have hF := fun W (hv : Reads W (.slice a s.size c) s) => firstB_err s (.slice a s.size c) bare W hv (by rw [hE]; decide)
  rw [hE] at hF
  have HF := Lib.hid hF
  clear hE hF
  clear h
  go_enter Try.func20, Try.ntmps20
  go_upto_region 3 with fail
  go_cut [4, 5, 6] (fun s4 s5 s6 wx => ∃ q : Nat, s4 = .pointer (some ⟨q, 0, none⟩) ∧ s5 = .int .i64 0 ∧ s6 = .int .i64 4 ∧ Behind w 0 { data := #[] } q wx)
  case first =>
    go_region_with (go_at_call 24; refine (HF.out _ (by first | exact HR.out.grown ((Below.refl _ _).alloc (Nat.le_refl _) _).drew | exact HR.out.grown (((Below.refl _ _).alloc (Nat.le_refl _) _).alloc (by simp) _).drew)).mono ?_; rintro e w1 ⟨rfl, hb1⟩; first | (have hX := next_before hp c0 c1 c2 hb1; obtain ⟨hB, d0, d1, d2, x2, y2, z2, z3, x4, y4, z4⟩ := hX) | (have hX := next_behind hp c0 c1 c2 hb1; obtain ⟨hB, d0, d1, d2, x2, y2, z2, z3⟩ := hX); clear hb1)
    all_goals go_wp2_with fail
    all_goals go_meet
    all_goals first | exact ⟨_, rfl, rfl, rfl, behind_new hB x2 y2 z2⟩ | exact ⟨_, rfl, rfl, rfl, behind_old hB x2 y2 z4 x4⟩
  case rest =>
    obtain ⟨q, rfl, rfl, rfl, hx, hy, hyf, hq1, hq2, hB⟩ := hcut
    clear HF HR c0 c1 c2
    go_wp2
    refine bodyPost_ret (v := .tuple #[.agg #[.int .u8 0, .string { data := #[] }], .int .i64 4]) (by simp [results, Try.results20, go_sem, hy]) rfl ⟨rfl, ?_⟩
    exact (hB.setCell (Nat.le_refl _) _).setCell (Nat.le_refl _) _
end Go.Proofs.Ytjohgfcfnlilmaa
