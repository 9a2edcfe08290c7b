/- An argument that is a slice of frames, opened to its cells. -/
import Derived.Test.YtjohgfcfnlilmaaRows
import Derived.Test.YtjohgfcfnlilmaaPlain
import Derived.Test.YtjohgfcfnlilmaaFrame
import Derived.Deep.SlicePairs
namespace Go.Proofs.Ytjohgfcfnlilmaa
open Go.ChangeShapes Go.WideShapes Go.ChangeAt Go.RowKit

/-- The frames that lie from place off of block b on. -/
def FramesAt (w : World) (b off len : Nat) (F : Nat → Int × ByteArray) : Prop :=
  ∀ i, i < len → w.cell? ⟨b, off + i * 2, none⟩ = some (.int .u8 (F i).1) ∧ w.cell? ⟨b, off + i * 2 + 1, none⟩ = some (.string (F i).2)

theorem open_frames {H : Type} {enc : TypeId × Value → H} {w : World} {a : Option Addr} {len cap : Nat} {d : DataW H} {p : List MemPlace} (h : DataW.Trod enc Try.prog w 0 (fun _ => true) true 42 (.slice a len cap) d p) :
    ∃ F : Nat → Int × ByteArray, (∀ i, i < len → 0 ≤ (F i).1 ∧ (F i).1 < 256) ∧ (len = 0 ∨ ∃ b off, a = some ⟨b, off, none⟩ ∧ b < w.heap.size ∧ FramesAt w b off len F) := by
  obtain ⟨fuel, hf⟩ := h
  have hf' : DataW.trod enc Try.prog w 0 (fun _ => true) true fuel 42 [.slice a len cap] = some (d, p) := by simpa [Value.cells] using hf
  rcases Go.Deep.open_slice_pairs Try.underlying42 Try.underlying23 cells_frame rfl rfl (by kernel_rfl) (by kernel_rfl) hf' with ⟨h0, _⟩ | ⟨a', len', cap', m, n, V0, V1, D0, D1, P0, P1, hcs, _, hl, _, hm, _, hc⟩
  · refine ⟨fun _ => (0, { data := #[] }), fun _ _ => by simp, .inl ?_⟩
    simp at h0; exact h0.2.1
  · simp only [List.cons.injEq, Value.slice.injEq, and_true] at hcs
    obtain ⟨rfl, rfl, rfl⟩ := hcs
    have hlm : len ≤ m := by rw [hm]; simp; exact hl
    have hv : ∀ i, i < len → ∃ q : Int × ByteArray, V0 i = .int .u8 q.1 ∧ V1 i = .string q.2 ∧ 0 ≤ q.1 ∧ q.1 < 256 := by
      intro i hi
      obtain ⟨_, _, h2, h3⟩ := hc i (by omega)
      obtain ⟨t, e0, _, wt⟩ := DataW.trod_int Try.underlying5 h2
      obtain ⟨s, e1, _, _⟩ := DataW.trod_string Try.underlying9 h3
      simp at e0 e1
      exact ⟨(t, s), e0, e1, byte_range wt⟩
    refine ⟨fun i => if hi : i < len then Classical.choose (hv i hi) else (0, { data := #[] }), fun i hi => ?_, ?_⟩
    · simp only [dif_pos hi]
      exact (Classical.choose_spec (hv i hi)).2.2
    · by_cases h0 : len = 0
      · exact .inl h0
      right
      obtain ⟨b, off, spot⟩ := a'
      have hs0 := (hc 0 (by omega)).1
      have hspot : spot = none := by simpa [Addr.add] using World.cell?_spot hs0
      subst hspot
      refine ⟨b, off, rfl, ?_, fun i hi => ?_⟩
      · exact World.block_lt_of_cell? w ((⟨b, off, none⟩ : Addr).add (0 * 2)) hs0
      · have hq := Classical.choose_spec (hv i hi)
        obtain ⟨h1, h2, _, _⟩ := hc i (by omega)
        simp only [dif_pos hi]
        rw [Go.WideShapes.add_plain] at h1 h2
        rw [hq.1] at h1
        rw [hq.2.1] at h2
        exact ⟨h1, by rw [Nat.add_assoc]; exact h2⟩
end Go.Proofs.Ytjohgfcfnlilmaa
