/- The chapter's example; the contracts in the forms in which a law wants them; the arguments opened. -/
import Derived.Test.YtjckfdpkcaloiaaPut
import Derived.Test.YtjckfdpkcaloiaaMergeW
import Derived.Test.YtjckfdpkcaloiaaRead
import Derived.Test.YtjckfdpkcaloiaaRefOver
import Derived.Deep.SlicePairs
import Derived.SizedLaws
import Derived.ChangeAt
import Derived.ChangeSlices
import Derived.OpenShut
namespace Go.Proofs.Ytjckfdpkcaloiaa
open Go.RowKit Go.Lib Go.WideShapes Go.ChangeShapes Go.ChangeAt Go.Joins

def tA : ByteArray := { data := #[97] }
def tB : ByteArray := { data := #[98] }
def t1 : ByteArray := { data := #[49] }
def t2 : ByteArray := { data := #[50] }

theorem put_shown : put [(tA, t1)] tB t2 = [(tA, t1), (tB, t2)] := by
  have h : lt tA tB = true := by
    unfold lt; rw [Lib.toList_data, Lib.toList_data]; decide
  rw [put, if_pos h, put]

set_option maxHeartbeats 1000000 in
theorem shown_true (w : World) :
    Calls Try.prog 7 #[] w fun e w' => e = .returned (.bool true) ∧ Below w.heap.size w w' := by
  have hH : Holds (w.alloc (.cells #[.string tA, .string t1] 43)) (.slice (some ⟨w.heap.size, 0, none⟩) 1 1) [(tA, t1)] :=
    ⟨_, 1, rfl, by decide, by decide, by simp, .inr ⟨_, _, rfl, by simp, fun i hi => by
      obtain rfl : i = 0 := by simpa using hi
      exact ⟨World.cell?_alloc_new _ _ _ _, World.cell?_alloc_new _ _ _ _⟩⟩⟩
  have HP := Lib.hid (put_any _ [(tA, t1)] tB t2 _ hH (.cons (by simp) .nil) (by simp))
  clear hH
  go_enter Try.func7, Try.ntmps7
  go_wp2_with fail
  refine HP.out.mono ?_; rintro e w1 ⟨x, rfl, hx, hb1⟩
  rw [put_shown] at hx
  have hR : Rise [(tA, t1), (tB, t2)] := by rw [← put_shown]; exact put_rise (.cons (by simp) .nil) _ _
  have HR := Lib.hid (fun W (hW : Holds W x [(tA, t1), (tB, t2)]) => right_any x [(tA, t1), (tB, t2)] W hW)
  rw [(right_iff _).2 hR] at HR
  have HX := Lib.hid hx
  have hB1 : Below w.heap.size w w1 := ((Below.refl _ w).alloc (Nat.le_refl _) (.cells #[.string tA, .string t1] 43)).step hb1 (by simp)
  have hz1 := hB1.size
  have HB := Lib.hid hB1
  obtain ⟨a, c, rfl⟩ := hx.form
  obtain ⟨b, off, rfl, hb, hc⟩ := hx.open (by simp)
  have c1 := (hc 0 (by simp)).2
  have c2 := (hc 1 (by simp)).1
  have c3 := (hc 1 (by simp)).2
  simp only [List.getElem_cons_zero, List.getElem_cons_succ, Nat.zero_mul, Nat.add_zero, Nat.one_mul] at c1 c2 c3
  clear hc hx hb1 hR hB1 HP
  have q1 : t1.toList = [49] := by rw [Lib.toList_data]; rfl
  have q2 : tB.toList = [98] := by rw [Lib.toList_data]; rfl
  have q3 : t2.toList = [50] := by rw [Lib.toList_data]; rfl
  go_wp2_with fail
  refine (HR.out w1 HX.out).mono ?_; rintro e w2 ⟨rfl, hb2⟩
  have HB2 := Lib.hid (HB.out.step hb2 hz1)
  clear hb2 HR
  go_wp2_with fail
  go_ret
  exact ⟨rfl, HB2.out⟩

theorem few_yes (v : Value) (g : Pairs) (w : World) (h : Holds w v g) (hz : ∀ p ∈ g, p.1.size ≤ 140737488351232 ∧ p.2.size ≤ 140737488351232) (hf : weight g < 3000) :
    Calls Try.prog 8 #[v] w fun e w' => e = .returned (.bool true) ∧ Below w.heap.size w w' := by
  have := few_any v g w h hz; rwa [decide_eq_true hf] at this

theorem few_no (v : Value) (g : Pairs) (w : World) (h : Holds w v g) (hz : ∀ p ∈ g, p.1.size ≤ 140737488351232 ∧ p.2.size ≤ 140737488351232) (hf : ¬ weight g < 3000) :
    Calls Try.prog 8 #[v] w fun e w' => e = .returned (.bool false) ∧ Below w.heap.size w w' := by
  have := few_any v g w h hz; rwa [decide_eq_false hf] at this

theorem right_yes (v : Value) (g : Pairs) (w : World) (h : Holds w v g) (hr : Rise g) :
    Calls Try.prog 12 #[v] w fun e w' => e = .returned (.bool true) ∧ Below w.heap.size w w' := by
  have := right_any v g w h; rwa [(right_iff g).2 hr] at this

theorem right_no (v : Value) (g : Pairs) (w : World) (h : Holds w v g) (hr : ¬ Rise g) :
    Calls Try.prog 12 #[v] w fun e w' => e = .returned (.bool false) ∧ Below w.heap.size w w' := by
  have := right_any v g w h
  rwa [show right g = false by cases h : right g with | false => rfl | true => exact absurd ((right_iff g).1 h) hr] at this

theorem size_list (s : ByteArray) : s.data.toList.length = s.size := by simp

theorem cells_pair : Try.prog.cellsOf 43 = 2 := by kernel_rfl

theorem weightsAll_mem {H : Type} {P : Program} {e : TypeId} : ∀ {l : List (DataW H)} {d : DataW H}, d ∈ l → ∀ n ∈ d.weights P e, n ∈ DataW.weightsAll P e l
  | d' :: r, d, hd, n, hn => by
    simp only [DataW.weightsAll, List.mem_append]
    rcases List.mem_cons.1 hd with rfl | h
    · exact .inl hn
    · exact .inr (weightsAll_mem h n hn)

/-- An argument that is a row of pairs, opened; each text weighs. -/
theorem open_pairs {H : Type} {enc : TypeId × Value → H} {w : World} {a : Option Addr} {len cap : Nat} {d : DataW H} {p : List MemPlace} (h : DataW.Trod enc Try.prog w 0 (fun _ => true) true 22 (.slice a len cap) d p) :
    ∃ g : Pairs, Holds w (.slice a len cap) g ∧ ∀ q ∈ g, q.1.size ∈ d.weights Try.prog 22 ∧ q.2.size ∈ d.weights Try.prog 22 := by
  obtain ⟨fuel, hf⟩ := h
  have hf' : DataW.trod enc Try.prog w 0 (fun _ => true) true fuel 22 [.slice a len cap] = some (d, p) := by simpa [Value.cells] using hf
  rcases Go.Deep.open_slice_pairs Try.underlying22 Try.underlying43 cells_pair rfl rfl (by kernel_rfl) (by kernel_rfl) hf' with ⟨h0, _⟩ | ⟨a', len', cap', m, n, V0, V1, D0, D1, P0, P1, hcs, _, hl, hmx, hm, hd, hc⟩
  · simp at h0
    obtain ⟨rfl, rfl, rfl⟩ := h0
    exact ⟨[], Holds.nil w, by simp⟩
  · simp only [List.cons.injEq, Value.slice.injEq, and_true] at hcs
    obtain ⟨rfl, rfl, rfl⟩ := hcs
    simp only [Prod.mk.injEq] at hd
    obtain ⟨rfl, _⟩ := hd
    have hlm : len ≤ m := by rw [hm]; simp; exact hl
    have hv : ∀ i, i < len → ∃ q : ByteArray × ByteArray, V0 i = .string q.1 ∧ V1 i = .string q.2 ∧ D0 i = .lit (.string q.1.data.toList) ∧ D1 i = .lit (.string q.2.data.toList) := by
      intro i hi
      obtain ⟨_, _, h2, h3⟩ := hc i (by omega)
      obtain ⟨s, e0, ep, _⟩ := DataW.trod_string Try.underlying9 h2
      obtain ⟨t, e1, eq, _⟩ := DataW.trod_string Try.underlying9 h3
      simp at e0 e1
      simp only [Prod.mk.injEq] at ep eq
      exact ⟨(s, t), e0, e1, ep.1, eq.1⟩
    let F : Nat → ByteArray × ByteArray := fun i => if hi : i < len then Classical.choose (hv i hi) else ({ data := #[] }, { data := #[] })
    have hF : ∀ i, i < len → V0 i = .string (F i).1 ∧ V1 i = .string (F i).2 ∧ D0 i = .lit (.string (F i).1.data.toList) ∧ D1 i = .lit (.string (F i).2.data.toList) := fun i hi => by
      have := Classical.choose_spec (hv i hi)
      simpa only [F, dif_pos hi] using this
    have hlen : ((List.range len).map F).length = len := by simp
    refine ⟨(List.range len).map F, ?_, ?_⟩
    · refine ⟨some a', cap, by rw [hlen], by rw [hlen]; exact hl, hmx, by simp, ?_⟩
      by_cases h0 : len = 0
      · left; subst h0; rfl
      right
      obtain ⟨b, off, spot⟩ := a'
      have hs0 := (hc 0 (by omega)).1
      have hspot : spot = none := by simpa [Addr.add] using World.cell?_spot hs0
      subst hspot
      refine ⟨b, off, rfl, ?_, fun i hi => ?_⟩
      · exact World.block_lt_of_cell? w ((⟨b, off, none⟩ : Addr).add (0 * 2)) hs0
      · rw [hlen] at hi
        obtain ⟨h1, h2, _, _⟩ := hc i (by omega)
        rw [add_plain] at h1 h2
        obtain ⟨e1, e2, _, _⟩ := hF i hi
        rw [e1] at h1
        rw [e2] at h2
        simp only [List.getElem_map, List.getElem_range]
        exact ⟨h1, by rw [Nat.add_assoc]; exact h2⟩
    · intro q hq
      obtain ⟨i, hi, rfl⟩ := List.mem_map.1 hq
      have hi' : i < len := List.mem_range.1 hi
      obtain ⟨_, _, e3, e4⟩ := hF i hi'
      have hmem : DataW.agg [D0 i, D1 i] ∈ (List.range len).map fun i => DataW.agg (H := H) [D0 i, D1 i] := List.mem_map.2 ⟨i, hi, rfl⟩
      simp only [DataW.weights, Try.underlying22, List.mem_cons, List.mem_append]
      refine ⟨.inr (.inl (weightsAll_mem hmem _ ?_)), .inr (.inl (weightsAll_mem hmem _ ?_))⟩
      · simp [DataW.weights, Try.underlying43, DataW.weightsEach, e3, e4]
      · simp [DataW.weights, Try.underlying43, DataW.weightsEach, e3, e4]
end Go.Proofs.Ytjckfdpkcaloiaa
