/- An argument that is a slice of tokens, opened to its cells. -/
import Derived.Test.YtalnflfafapicaaDoorNTakeW
import Derived.Deep.SlicePairs
namespace Go.Proofs.YtalnflfafapicaaDoor
open Go.ChangeShapes Go.WideShapes Go.ChangeAt Go.RowKit

theorem byte_in {z : Int} (h : (Lit.int .u8 z).wf = true) : 0 ≤ z ∧ z < 256 := by
  have hmin : IntKind.u8.min = 0 := rfl
  have hmax : IntKind.u8.max = 255 := rfl
  simp only [Lit.wf, Bool.and_eq_true, decide_eq_true_eq] at h
  omega

theorem open_toks {H : Type} {enc : TypeId × Value → H} {w : World} {a : Option Addr} {len cap : Nat} {d : DataW H} {p : List MemPlace} (h : DataW.Trod enc Tryd.prog w 0 (fun _ => true) true 22 (.slice a len cap) d p) :
    ∃ T : List Tok, T.length = len ∧ TokW w a T := by
  obtain ⟨fuel, hf⟩ := h
  have hf' : DataW.trod enc Tryd.prog w 0 (fun _ => true) true fuel 22 [.slice a len cap] = some (d, p) := by simpa [Value.cells] using hf
  rcases Go.Deep.open_slice Tryd.underlying22 hf' with ⟨h0, _⟩ | ⟨a', len', cap', m, n, D, Pl, hcs, _, hl, _, hm, _, hx⟩
  · simp at h0
    obtain ⟨rfl, rfl, rfl⟩ := h0
    exact ⟨[], rfl, .inl rfl⟩
  · simp only [List.cons.injEq, Value.slice.injEq, and_true] at hcs
    obtain ⟨rfl, rfl, rfl⟩ := hcs
    have hlm : len ≤ m := by rw [hm]; simp; exact hl
    have ce : Tryd.prog.cellsOf 25 = 4 := by kernel_rfl
    have each : ∀ i, i < len → ∃ q : Tok × Int × Int, w.cell? (a'.add (i * 4)) = some (.int .u8 (q.1.kind.toNat : Nat)) ∧ w.cell? (a'.add (i * 4 + 1)) = some (.string ⟨q.1.text.toArray⟩) ∧ w.cell? (a'.add (i * 4 + 2)) = some (.int .i64 q.2.1) ∧ w.cell? (a'.add (i * 4 + 3)) = some (.int .i64 q.2.2) := by
      intro i hi
      obtain ⟨cs', h1, h2⟩ := hx i (by omega)
      rw [ce] at h1
      obtain ⟨_, hlen, hcell⟩ := World.cells?_some h1
      obtain ⟨xs, k, hk, hxy, _, hxl, hf⟩ := DataW.trod_struct Tryd.underlying25 h2
      match xs, hxl, cs', hlen with
      | [y0, y1, y2, y3], _, [v0, v1, v2, v3], _ =>
        have g0 := hf 0 _ rfl
        have g1 := hf 1 _ rfl
        have g2 := hf 2 _ rfl
        have g3 := hf 3 _ rfl
        have c1 : Tryd.prog.cellsOf 5 = 1 := by kernel_rfl
        have c2 : Tryd.prog.cellsOf 9 = 1 := by kernel_rfl
        have c3 : Tryd.prog.cellsOf 3 = 1 := by kernel_rfl
        simp [c1, c2, c3] at g0 g1 g2 g3
        obtain ⟨z0, e0, _, wz⟩ := DataW.trod_int Tryd.underlying5 g0
        obtain ⟨z1, e1, _, _⟩ := DataW.trod_string Tryd.underlying9 g1
        obtain ⟨z2, e2, _, _⟩ := DataW.trod_int Tryd.underlying3 g2
        obtain ⟨z3, e3, _, _⟩ := DataW.trod_int Tryd.underlying3 g3
        simp at e0 e1 e2 e3
        subst e0 e1 e2 e3
        have hz := byte_in wz
        have d0 := hcell 0 (by omega)
        have d1 := hcell 1 (by omega)
        have d2 := hcell 2 (by omega)
        have d3 := hcell 3 (by omega)
        rw [Go.Deep.add_add] at d0 d1 d2 d3
        simp at d0 d1 d2 d3
        refine ⟨(⟨UInt8.ofNat z0.toNat, bytes z1, 0, 0⟩, z2, z3), ?_, ?_, d2, d3⟩
        · rw [d0]
          have : ((UInt8.ofNat z0.toNat).toNat : Int) = z0 := by rw [UInt8.toNat_ofNat', Nat.mod_eq_of_lt (by omega)]; omega
          rw [this]
        · rw [d1]
    haveI : Inhabited (Tok × Int × Int) := ⟨(⟨0, [], 0, 0⟩, 0, 0)⟩
    obtain ⟨q, hq⟩ := Go.Deep.choose_lt each
    refine ⟨(List.range len).map fun i => (q i).1, by simp, ?_⟩
    by_cases h0 : len = 0
    · subst h0; exact .inl rfl
    right
    obtain ⟨b, off, spot⟩ := a'
    have hs0 := (hq 0 (by omega)).1
    have hspot : spot = none := by simpa [Addr.add] using World.cell?_spot hs0
    subst hspot
    refine ⟨b, off, rfl, World.block_lt_of_cell? w ((⟨b, off, none⟩ : Addr).add (0 * 4)) hs0, fun i x hx => ?_⟩
    obtain ⟨hi, rfl⟩ : i < len ∧ (q i).1 = x := by
      rw [List.getElem?_map] at hx
      by_cases hi : i < len
      · rw [List.getElem?_range hi] at hx
        exact ⟨hi, Option.some.inj hx⟩
      · rw [List.getElem?_eq_none (by simp; omega)] at hx; cases hx
    obtain ⟨d0, d1, d2, d3⟩ := hq i hi
    rw [Go.WideShapes.add_plain] at d0 d1 d2 d3
    exact ⟨d0, by rw [Nat.add_assoc]; exact d1, (q i).2.1, (q i).2.2, by rw [Nat.add_assoc]; exact d2, by rw [Nat.add_assoc]; exact d3⟩
end Go.Proofs.YtalnflfafapicaaDoor
