/- Slices of integers opened; rows of strings of the call's own. -/
import Derived.Test.YtckimeikiakfcaaDoorShown4
import Derived.Test.YtckimeikiakfcaaDoorCard
import Derived.ChangeSlices
import Derived.ChangeAlike
import Derived.SizedLaws
import Derived.HandedShaped
import Derived.OpenShut
namespace Go.Proofs.YtckimeikiakfcaaDoor
open Go.RowKit Go.Lib Go.WideShapes Go.ChangeShapes Go.ChangeAt Go.Joins

/-- The integers that lie from place off of block b on. -/
def IntsAt (w : World) (b off n : Nat) (c : Nat → Int) : Prop := ∀ i, i < n → w.cell? ⟨b, off + i, none⟩ = some (.int .i64 (c i))

/-- An argument that is a slice of integers, opened to its cells. -/
theorem open_row {H : Type} {enc : TypeId × Value → H} {w : World} {a : Option Addr} {len cap : Nat} {d : DataW H} {p : List MemPlace} (h : DataW.Trod enc Tryd.prog w 0 (fun _ => true) true 40 (.slice a len cap) d p) :
    ∃ c : Nat → Int, (∀ i, i < len → -9223372036854775808 ≤ c i ∧ c i ≤ 9223372036854775807) ∧ (len = 0 ∨ ∃ b off, a = some ⟨b, off, none⟩ ∧ b < w.heap.size ∧ IntsAt w b off len c) := by
  obtain ⟨fuel, hf⟩ := h
  have hf' : DataW.trod enc Tryd.prog w 0 (fun _ => true) true fuel 40 [.slice a len cap] = some (d, p) := by simpa [Value.cells] using hf
  rcases open_ints Tryd.underlying40 Tryd.underlying3 (by kernel_rfl) hf' with ⟨h0, _⟩ | ⟨a', len', cap', zs, hcs, _, hl, _, hz, _, hcell, hw⟩
  · refine ⟨fun _ => 0, fun _ _ => by simp, .inl ?_⟩
    simp at h0; exact h0.2.1
  · simp only [List.cons.injEq, Value.slice.injEq, and_true] at hcs
    obtain ⟨rfl, rfl, rfl⟩ := hcs
    have hlz : len ≤ zs.length := by rw [hz]; simp; exact hl
    refine ⟨fun i => zs.getD i 0, fun i hi => int_range (hw _ ?_), ?_⟩
    · have e : zs.getD i 0 = zs[i]'(by omega) := by simp [List.getD, List.getElem?_eq_getElem (show i < zs.length by omega)]
      show zs.getD i 0 ∈ zs
      rw [e]; exact List.getElem_mem _
    · by_cases h0 : len = 0
      · exact .inl h0
      right
      obtain ⟨b, off, rfl, hc⟩ := ints_at hcell (by omega)
      exact ⟨b, off, rfl, World.block_lt_of_cell? w (⟨b, off + 0, none⟩ : Addr) (hc 0 (by omega)), fun i hi => hc i (by omega)⟩

theorem info_string : (Tryd.prog.info? 9).map (fun i => (i.zero, i.size, i.bytes)) = some (some (.string { data := #[] }), 1, 16) := by kernel_rfl

def strC (W : List Bs) : List Value := W.map fun x => .string ⟨x.toArray⟩
theorem strC_snoc (W : List Bs) (x : Bs) : strC (W ++ [x]) = strC W ++ [.string ⟨x.toArray⟩] := by simp [strC]
theorem strC_length (W : List Bs) : (strC W).length = W.length := by simp [strC]

theorem own_words {w : World} {base n cap : Nat} {a : Option Addr} {W : List Bs} (h : w.ownsRow base 9 1 (.slice a n cap) n (strC W)) (hl : W.length = n) : WordsAt w a W := by
  intro i x hx
  have hi : i < W.length := (List.getElem?_eq_some_iff.1 hx).1
  rcases h.2 with ⟨_, hz⟩ | ⟨g, c, cur, hv, _⟩
  · omega
  · simp only [Value.slice.injEq] at hv
    obtain ⟨rfl, _, rfl⟩ := hv
    have := h.cells (g := g) rfl i (.string ⟨x.toArray⟩) (by simp [strC, hx])
    rw [add_plain, Nat.zero_add] at this
    exact ⟨g, rfl, (h.lt g rfl).2, this⟩

end Go.Proofs.YtckimeikiakfcaaDoor
